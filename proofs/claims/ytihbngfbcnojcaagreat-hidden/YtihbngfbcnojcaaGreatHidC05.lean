import Derived.Test.YtihbngfbcnojcaaGreatHidC04
import Derived.Test.YtihbngfbcnojcaaGreatProg
import Derived.Lib.Strings
import Derived.Deep.Upon
namespace Go.Proofs.YtihbngfbcnojcaaGreat
open Go.RowKit

def emptyPairs (n : Nat) : List Value := pairCells (List.replicate n (ByteArray.empty, ByteArray.empty))
theorem emptyPairs_length (n : Nat) : (emptyPairs n).length = n * 2 := by rw [emptyPairs, pairCells_length, List.length_replicate]
theorem zeroCells_pair (n : Nat) : Builtin.zeroCells (Value.agg #[.string ByteArray.empty, .string ByteArray.empty]).cells n = (emptyPairs n).toArray := by
  apply Array.ext
  · simp [size_zeroCells, Value.cells, emptyPairs_length]
  · intro i h1 h2
    have hi : i < n * 2 := by simpa [emptyPairs_length] using h2
    have hv : (emptyPairs n)[i]? = some (.string ByteArray.empty) := by
      obtain ⟨h3, h4⟩ := pairCells_at (List.replicate n (ByteArray.empty, ByteArray.empty)) (i / 2) (ByteArray.empty, ByteArray.empty) (by rw [List.getElem?_replicate, if_pos (by omega)])
      rcases Nat.mod_two_eq_zero_or_one i with h | h
      · rw [show i = i / 2 * 2 by omega]; exact h3
      · rw [show i = i / 2 * 2 + 1 by omega]; exact h4
    have hv' : (emptyPairs n).toArray[i] = Value.string ByteArray.empty := by
      have := List.getElem?_eq_some_iff.1 hv
      obtain ⟨_, h⟩ := this
      simpa using h
    rw [hv']
    simp only [Builtin.zeroCells, Value.cells, Array.getElem_map, Array.getElem_range]
    rcases Nat.mod_two_eq_zero_or_one i with h | h
    · simp [h]
    · simp [h]

/-- 'append(l, make([]api.Pair, n)...)' where there is no room. -/
theorem append_empty_grow {w : World} {g cap k : Nat} {xs : List Value} (n : Nat) (ty : TypeId) (hown : w.ownsRow 0 43 2 (.slice (some ⟨g, 0, none⟩) k cap) k xs) (hs : k + n ≤ 1000000) (hc : cap < k + n) :
    ∃ c rest, (Builtin.append_ #[34, 3] ty #[.slice (some ⟨g, 0, none⟩) k cap, .int .i64 n]).run Tryz.prog w = .ok (.slice (some ⟨w.heap.size, 0, none⟩) (k + n) c) (w.drew.alloc (.cells (xs ++ emptyPairs n ++ rest).toArray 43 (0, 0))) ∧ (k + n) * 2 + rest.length = c * 2 ∧ k + n ≤ c ∧ c ≤ maxLen := by
  obtain ⟨i, hi, hz, h1, hy⟩ := info_parts infoPair
  have ht := Tryz.underlying34
  have hu := Tryz.underlying3
  have hw : IntKind.i64.wrap (n : Int) = n := by rw [IntKind.wrap_i64]; omega
  have hneg : ¬ ((n : Int) < 0) := by omega
  have h48i : ¬ (281474976710656 < (n : Int) * 32) := by omega
  have hcl : grownCap w (k + n) cap 43 ≤ maxLen := grownCap_le_maxLen w _ _ 43 (by unfold maxLen; omega)
  have hge := grownCap_ge w (k + n) cap 43
  refine ⟨grownCap w (k + n) cap 43, emptyPairs (grownCap w (k + n) cap 43 - (k + n)), ?_, by rw [emptyPairs_length]; omega, hge, hcl⟩
  have hn : ¬ (k + n ≤ cap) := by omega
  have h63' : ¬ (9223372036854775807 < ((k : Int) + (n : Int))) := by omega
  have hf : (Builtin.firstCells 2 k (.slice (some ⟨g, 0, none⟩) k cap)).run Tryz.prog w.drew = .ok xs.toArray w.drew := by
    exact run_firstCells_some (P := Tryz.prog) w.drew 2 k ⟨g, 0, none⟩ k cap xs (by simpa using hown.1) (by simpa using hown.cells (g := g) rfl)
  have h0 : ¬ n = 0 := by
    rcases hown.2 with ⟨h, _⟩ | ⟨g', cap', cur, h, _, hg, hle, _, _, htake⟩
    · cases h
    · simp at h; omega
  have h48' : ¬ (281474976710656 < Builtin.nextslicecap (k + n) cap * 32) := by
    have := growslice_fits (bytes := 32) hc (by omega); omega
  simp [Builtin.append_, run_underlying ht, run_underlying hu, sizeOf, typeInfo, zeroValue, hi, hz, h1, hy, asInt, asIntOf, hw, hneg, h48i, hn, h63', h48', zeroCells_pair, Question.forced, hf, newRow, grownCap]
  intro h
  omega

set_option maxRecDepth 100000 in
set_option maxHeartbeats 2000000 in
/-- In the midst, with no room. -/
theorem insert_grow (g a r : Nat) (A B : Pairs) (p : ByteArray × ByteArray) (gv : Nat) (w : World) (hA : A.length = a) (hB : B.length = r + 1) (hown : w.ownsRow 0 43 2 (.slice (some ⟨g, 0, none⟩) (a + 1 + r) (a + 1 + r)) (a + 1 + r) (pairCells (A ++ B))) (hgv : w.heap[gv]? = some (.cells #[.string p.1, .string p.2] 43 (0, 0)))
    (hlen : a + 1 + r ≤ 100000) :
    Calls Tryz.prog 160 #[.slice (some ⟨g, 0, none⟩) (a + 1 + r) (a + 1 + r), .int .i64 a, .slice (some ⟨gv, 0, none⟩) 1 1] w fun e w' => ∃ v', e = .returned v' ∧ Inserted w w' (.slice (some ⟨g, 0, none⟩) (a + 1 + r) (a + 1 + r)) v' (a + 1 + r + 1) (A ++ p :: B) := by
  obtain ⟨i0, hi0, hz0, hz1, hz2⟩ := info_parts infoPair
  obtain ⟨rest, hg, hl1, hl2, hcap, hmax⟩ := owns_cur hown
  obtain rfl : rest = [] := List.eq_nil_of_length_eq_zero (by omega)
  have HL : Hid ((pairCells A).length = a * 2 ∧ (pairCells B).length = (r + 1) * 2) := ⟨by rw [pairCells_length, hA], by rw [pairCells_length, hB]⟩
  have hownA : w.ownsRow 0 43 2 (.slice (some ⟨g, 0, none⟩) a (a + 1 + r)) a (pairCells A) := by
    refine owns_of (rest := pairCells B) (Nat.zero_le _) (hg.trans (by rw [pairCells_append]; simp)) HL.out.1 (by rw [HL.out.1, HL.out.2]; omega) (by omega) hmax
  have HG : Hid (w.heap[g]? = some (.cells (pairCells A ++ pairCells B).toArray 43 (0, 0)) ∧ w.heap[gv]? = some (.cells #[.string p.1, .string p.2] 43 (0, 0))) := ⟨hg.trans (by rw [pairCells_append]; simp), hgv⟩
  have HOA := @id (Hid _) hownA
  clear hown hg hl1 hl2 hcap hmax hA hB hgv hownA
  have e1 : (a : Int) ≤ (a : Int) + 1 + (r : Int) := by omega
  have e2 : ((a : Int) == (a : Int) + 1 + (r : Int)) = false := by simp; omega
  have e3 : (a : Int) + 1 + (r : Int) < (a : Int) + 1 + (r : Int) + 1 := by omega
  have e4 : a ≤ a + 1 + r := by omega
  have e9 : (a : Int) + 1 + (r : Int) ≤ 100000 := by omega
  have e5 : (a : Int) + 1 + (r : Int) + 1 - (a : Int) = ((r + 2 : Nat) : Int) := by omega
  have hszM : (Tryz.prog.info? 43).map (·.size) = some 2 := by rw [hi0]; simp [hz1]
  have hap := fun ty => append_empty_grow (r + 2) ty HOA.out (by omega) (by omega)
  obtain ⟨c, rest, hr0, hc1, hc2, hc3⟩ := hap 34
  have HCC : Hid ((a + (r + 2)) * 2 + rest.length = c * 2 ∧ a + (r + 2) ≤ c ∧ c ≤ maxLen) := ⟨hc1, hc2, hc3⟩
  have q1 : ¬ (c = a) := by omega
  have q2 : ¬ (c = a + 1) := by omega
  obtain ⟨W0, hW0⟩ : ∃ W0, W0 = w.drew.alloc (.cells (pairCells A ++ emptyPairs (r + 2) ++ rest).toArray 43 (0, 0)) := ⟨_, rfl⟩
  rw [← hW0] at hr0
  have HA := @id (Hid _) hr0
  have hB0 : Below w.heap.size w W0 := by rw [hW0]; exact (Below.refl _ _).drew.alloc (Nat.le_refl _) _
  have hz0' : W0.heap.size = w.heap.size + 1 := by rw [hW0]; simp
  have hN0 : W0.heap[w.heap.size]? = some (.cells (pairCells A ++ emptyPairs (r + 2) ++ rest).toArray 43 (0, 0)) := by rw [hW0]; exact heap_alloc_new w.drew _
  have hep : emptyPairs (r + 2) = [Value.string ByteArray.empty, .string ByteArray.empty] ++ emptyPairs (r + 1) := by simp [emptyPairs, pairCells, List.replicate_succ]
  have hgv0 := (hB0.block gv (lt_of_block' HG.out.2)).trans HG.out.2
  have hg0 := (hB0.block g (lt_of_block' HG.out.1)).trans HG.out.1
  have hgw := lt_of_block' HG.out.1
  -- the first copy
  have hcp1 : ∀ ty dc, Sem.run Tryz.prog (Builtin.copy_ #[34, 34] ty #[.slice (some ⟨w.heap.size, a * 2, none⟩) (r + 2) dc, .slice (some ⟨gv, 0, none⟩) 1 1]) W0 = .ok (goInt (1 : Nat)) (W0.setCells w.heap.size (a * 2) [.string p.1, .string p.2]) := fun ty dc => by
    refine run_copy_wide W0 _ _ ty 43 2 w.heap.size (a * 2) (r + 2) dc ⟨gv, 0, none⟩ 1 1 1 [.string p.1, .string p.2] Tryz.underlying34 hszM (by simp only [Nat.min_def]; split <;> omega) rfl (fun j v hj => ?_) (fun j hj => ?_) (fun j hj => frozen_at _ hN0) (by intro v hv; simp at hv; rcases hv with rfl | rfl <;> rfl)
    · rw [add_zero0]; exact cell_at hgv0 (by simpa using hj)
    · rw [cell_at hN0 (Array.getElem?_eq_getElem (show a * 2 + j < _ by have h2 := HL.out.1; have h3 := emptyPairs_length (r + 2); simp at hj ⊢; omega))]
      rfl
  obtain ⟨W1, hW1⟩ : ∃ W1, W1 = W0.setCells w.heap.size (a * 2) [.string p.1, .string p.2] := ⟨_, rfl⟩
  have hN1 : W1.heap[w.heap.size]? = some (.cells (pairCells A ++ [Value.string p.1, .string p.2] ++ emptyPairs (r + 1) ++ rest).toArray 43 (0, 0)) := by
    have h4 := setCells_list (w := W0) (g := w.heap.size) (t := 43) (pairCells A) [Value.string ByteArray.empty, .string ByteArray.empty] (emptyPairs (r + 1) ++ rest) [Value.string p.1, .string p.2] (hN0.trans (by rw [hep]; simp)) rfl
    rw [HL.out.1] at h4
    rw [hW1, h4]
    simp
  obtain ⟨f1, f2⟩ := setCells_frame [Value.string p.1, .string p.2] W0 w.heap.size (a * 2)
  rw [← hW1] at hcp1 f1 f2
  have hg1 := (f1 g (by omega)).trans hg0
  -- the second copy, at whatever world is W1 but for draws
  have hcp2 : ∀ (W : World), W.heap = W1.heap → ∀ ty dl dc sl sc, dl = r + 1 → sl = r + 1 → Sem.run Tryz.prog (Builtin.copy_ #[34, 34] ty #[.slice (some ⟨w.heap.size, (a + 1) * 2, none⟩) dl dc, .slice (some ⟨g, a * 2, none⟩) sl sc]) W = .ok (goInt (r + 1 : Nat)) (W.setCells w.heap.size ((a + 1) * 2) (pairCells B)) := fun W hW ty dl dc sl sc hdl hsl => by
    have hNW := (congrArg (fun h => h[w.heap.size]?) hW).trans hN1
    have hgW := (congrArg (fun h => h[g]?) hW).trans hg1
    refine run_copy_wide W _ _ ty 43 2 w.heap.size ((a + 1) * 2) dl dc ⟨g, a * 2, none⟩ sl sc (r + 1) (pairCells B) Tryz.underlying34 hszM (by simp only [Nat.min_def]; split <;> omega) HL.out.2 (fun j v hj => ?_) (fun j hj => ?_) (fun j hj => frozen_at _ hNW) (pairCells_one _)
    · rw [Addr.add_mid]
      refine cell_at hgW ?_
      rw [List.getElem?_toArray, List.getElem?_append_right (by rw [HL.out.1]; omega), HL.out.1, show a * 2 + j - a * 2 = j by omega]
      exact hj
    · rw [cell_at hNW (Array.getElem?_eq_getElem (show (a + 1) * 2 + j < _ by have h1 := HL.out.1; have h2 := HL.out.2; have h3 := emptyPairs_length (r + 1); simp; omega))]
      rfl
  have HCP2 := @id (Hid _) hcp2
  have HFIN : Hid (∀ W : World, W.heap = W1.heap → Below 0 W1 W → Inserted w (W.setCells w.heap.size ((a + 1) * 2) (pairCells B)) (.slice (some ⟨g, 0, none⟩) (a + 1 + r) (a + 1 + r)) (.slice (some ⟨w.heap.size, 0, none⟩) (a + (r + 2)) c) (a + 1 + r + 1) (A ++ p :: B)) := by
    intro W hW hBW
    have hNW := (congrArg (fun h => h[w.heap.size]?) hW).trans hN1
    obtain ⟨k1, k2⟩ := setCells_frame (pairCells B) W w.heap.size ((a + 1) * 2)
    refine ⟨?_, fun k hk hne => ?_, .inr ⟨w.heap.size, Nat.le_refl _, rfl⟩, ((hB0.mono (Nat.zero_le _)).trans (f2.trans (hBW.trans k2)))⟩
    · have h4 := setCells_list (w := W) (g := w.heap.size) (t := 43) (pairCells A ++ [Value.string p.1, .string p.2]) (emptyPairs (r + 1)) rest (pairCells B) hNW (by rw [HL.out.2, emptyPairs_length])
      have hl : (pairCells A ++ [Value.string p.1, .string p.2]).length = (a + 1) * 2 := by rw [List.length_append, HL.out.1]; simp; omega
      rw [hl] at h4
      rw [show a + 1 + r + 1 = a + (r + 2) by omega]
      refine owns_of (rest := rest) (Nat.zero_le _) (h4.trans (by simp [pairCells])) ?_ ?_ HCC.out.2.1 HCC.out.2.2
      · have h1 := HL.out.1; have h2 := HL.out.2
        rw [pairCells_length] at h1 h2 ⊢
        simp at h1 h2 ⊢
        omega
      · have h1 := HL.out.1; have h2 := HL.out.2; have h3 := HCC.out.1
        rw [pairCells_length] at h1 h2 ⊢
        simp at h1 h2 ⊢
        omega
    · rw [k1 k (by omega), hW, f1 k (by omega)]
      exact hB0.block k hk
  clear hr0 hc1 hc2 hc3 hW0 hW1 hN0 hN1 hgv0 hg0 hg1 f1 f2 hB0 hep hcp2 hap
  go_enter Tryz.func160, Tryz.ntmps160
  go_wp2_with (first | (at_builtin; go_must (refine Lib.wpList_append_run _ rfl _ _ 34 3 rfl _ _ rfl rfl _ _ HA.out ?_)))
  have q3 : IntKind.i64.wrap ((a : Int) + 1) = (a : Int) + 1 := by rw [IntKind.wrap_i64]; omega
  have q4 : ((a : Int) + 1).toNat = a + 1 := by omega
  have q5 : (0 : Int) ≤ (a : Int) + 1 := by omega
  have q6 : (a : Int) + 1 ≤ (a : Int) + ((r : Int) + 2) := by omega
  have q7 : (a : Int) ≤ (a : Int) + 1 + (r : Int) := by omega
  have q8 : ¬ (a + 1 + r = a) := by omega
  have q9 : a + (r + 2) - (a + 1) = r + 1 := by omega
  have q10 : a + 1 + r - a = r + 1 := by omega
  have hq : ∀ ty dc sc, Sem.run Tryz.prog (Builtin.copy_ #[34, 34] ty #[.slice (some ⟨w.heap.size, (a + 1) * 2, none⟩) (r + 1) dc, .slice (some ⟨g, a * 2, none⟩) (r + 1) sc]) W1.drew = .ok (goInt (r + 1 : Nat)) (W1.drew.setCells w.heap.size ((a + 1) * 2) (pairCells B)) := fun ty dc sc => HCP2.out W1.drew rfl ty _ dc _ sc rfl rfl
  go_region
  go_wp2
  go_ret
  exact ⟨_, rfl, HFIN.out W1.drew rfl (Below.refl _ _).drew⟩
end Go.Proofs.YtihbngfbcnojcaaGreat

namespace Go.Proofs.YtihbngfbcnojcaaGreat
open Go.RowKit

theorem insert_any (v : Value) (a r : Nat) (A B : Pairs) (p : ByteArray × ByteArray) (gv : Nat) (w : World) (hA : A.length = a) (hB : B.length = r) (hown : w.ownsRow 0 43 2 v (a + r) (pairCells (A ++ B))) (hgv : w.heap[gv]? = some (.cells #[.string p.1, .string p.2] 43 (0, 0)))
    (hne : v.ownBlock ≠ some gv) (hlen : a + r ≤ 100000) :
    Calls Tryz.prog 160 #[v, .int .i64 a, .slice (some ⟨gv, 0, none⟩) 1 1] w fun e w' => ∃ v', e = .returned v' ∧ Inserted w w' v v' (a + r + 1) (A ++ p :: B) := by
  match r, hB with
  | 0, hB =>
    obtain rfl : B = [] := List.eq_nil_of_length_eq_zero hB
    simp only [List.append_nil, Nat.add_zero] at hown ⊢
    exact insert_end v a A p gv w hA hown hgv (by omega)
  | r + 1, hB =>
    rw [show a + (r + 1) = a + 1 + r by omega] at hown hlen ⊢
    obtain ⟨g, cap, rfl⟩ := owns_some hown (by omega)
    by_cases hroom : a + 1 + r < cap
    · exact insert_room g cap a r A B p gv w hA hB hown hgv (fun e => hne (by rw [e]; rfl)) hlen hroom
    · obtain rfl : cap = a + 1 + r := by
        obtain ⟨_, _, _, _, h, _⟩ := owns_cur hown
        omega
      exact insert_grow g a r A B p gv w hA hB hown hgv hlen

/-- What 'With' makes of rising pairs, by the key's place. -/
theorem withFold_low (key val : ByteArray) : ∀ (A : Pairs) (out : Pairs) (d : Bool), (∀ p ∈ A, blt p.1 key) → A.foldl (withStep key val) (out, d) = (out ++ A, d)
  | [], out, d, _ => by simp
  | p :: r, out, d, h => by
    have hp := h p (by simp)
    have h1 : p.1 ≠ key := blt_ne hp
    have h2 : ¬ key.toList < p.1.toList := fun hc => blt_irrefl _ (blt_trans hp hc)
    have hs : withStep key val (out, d) p = (out ++ [p], d) := by simp [withStep, h1, h2, Ne.symm h1]
    rw [List.foldl_cons, hs, withFold_low key val r _ d (fun q hq => h q (by simp [hq]))]
    simp
theorem withFold_high (key val : ByteArray) : ∀ (B : Pairs) (out : Pairs), (∀ p ∈ B, blt key p.1) → B.foldl (withStep key val) (out, true) = (out ++ B, true)
  | [], out, _ => by simp
  | p :: r, out, h => by
    have h1 : p.1 ≠ key := fun e => blt_ne (h p (by simp)) e.symm
    have hs : withStep key val (out, true) p = (out ++ [p], true) := by simp [withStep, h1]
    rw [List.foldl_cons, hs, withFold_high key val r _ (fun q hq => h q (by simp [hq]))]
    simp
theorem withL_found (A B : Pairs) (key v0 : ByteArray) (is : Bool) (val : ByteArray) (hA : ∀ p ∈ A, blt p.1 key) (hB : ∀ p ∈ B, blt key p.1) : withL (A ++ (key, v0) :: B) key is val = if is then A ++ (key, val) :: B else A ++ B := by
  cases is with
  | true =>
    have hs : withStep key val (A, false) (key, v0) = (A ++ [(key, val)], true) := by simp [withStep]
    simp [withL, withFold, withFold_low key val A [] false hA, hs, withFold_high key val B _ hB]
  | false =>
    have hs : withStep key val (A, true) (key, v0) = (A, true) := by simp [withStep]
    simp [withL, withFold, withFold_low key val A [] true hA, hs, withFold_high key val B _ hB]
theorem withL_fresh (A B : Pairs) (key : ByteArray) (is : Bool) (val : ByteArray) (hA : ∀ p ∈ A, blt p.1 key) (hB : ∀ p ∈ B, blt key p.1) : withL (A ++ B) key is val = if is then A ++ (key, val) :: B else A ++ B := by
  cases is with
  | true =>
    match B, hB with
    | [], _ => simp [withL, withFold, withFold_low key val A [] false hA]
    | p :: B, hB =>
      have h0 := hB p (by simp)
      have h1 : p.1 ≠ key := fun e => blt_ne h0 e.symm
      have hs : withStep key val (A, false) p = (A ++ [(key, val)] ++ [p], true) := by simp [withStep, h1, show key.toList < p.1.toList from h0]
      simp [withL, withFold, withFold_low key val A [] false hA, hs, withFold_high key val B _ (fun q hq => hB q (by simp [hq]))]
  | false =>
    simp [withL, withFold, withFold_low key val A [] true hA, withFold_high key val B _ hB]

/-- Rising pairs, parted at a key's place. -/
theorem part_at {ps : Pairs} {key : ByteArray} {i : Nat} (hp : PosAt ps key i) (hr : RisingAt ps) :
    ∃ A B : Pairs, A.length = i ∧ (∀ p ∈ A, blt p.1 key) ∧ (∀ p ∈ B, blt key p.1) ∧ ((∃ v0, ps = A ++ (key, v0) :: B ∧ foundAt ps key i = true) ∨ (ps = A ++ B ∧ foundAt ps key i = false)) := by
  have hlow : ∀ p ∈ ps.take i, blt p.1 key := by
    intro p hm
    obtain ⟨m, hm1, rfl⟩ := List.getElem_of_mem hm
    have h1 : m < i := by simp at hm1; omega
    have h2 : m < ps.length := by simp at hm1; omega
    simpa using hp.2.1 m h2 h1
  have hal : (ps.take i).length = i := by rw [List.length_take]; have := hp.1; omega
  have hhi : ∀ m (h : m < ps.length), i ≤ m → ps[m].1 ≠ key → blt key ps[m].1 := fun m h hm hk => Classical.byContradiction fun hc => hk (blt_tri (hp.2.2 m h hm) hc)
  by_cases hil : i < ps.length
  · by_cases hk : ps[i].1 = key
    · refine ⟨ps.take i, ps.drop (i + 1), hal, hlow, ?_, .inl ⟨ps[i].2, ?_, by simp [foundAt, hil, hk]⟩⟩
      · intro p hm
        obtain ⟨m, hm1, rfl⟩ := List.getElem_of_mem hm
        have h2 : i + 1 + m < ps.length := by simp at hm1; omega
        have := hr i (i + 1 + m) hil h2 (by omega)
        rw [hk] at this
        simpa using this
      · have h1 : ps = ps.take i ++ ps.drop i := (List.take_append_drop i ps).symm
        rw [List.drop_eq_getElem_cons hil] at h1
        have h2 : ps[i] = (key, ps[i].2) := by rw [← hk]
        rw [h2] at h1
        exact h1
    · refine ⟨ps.take i, ps.drop i, hal, hlow, ?_, .inr ⟨(List.take_append_drop i ps).symm, by simp [foundAt, hil, hk]⟩⟩
      intro p hm
      obtain ⟨m, hm1, rfl⟩ := List.getElem_of_mem hm
      have h2 : i + m < ps.length := by simp at hm1; omega
      have h3 := hhi i hil (Nat.le_refl _) hk
      match m with
      | 0 => simpa using h3
      | m + 1 => simpa using blt_trans h3 (hr i (i + (m + 1)) hil h2 (by omega))
  · refine ⟨ps, [], by have := hp.1; omega, ?_, by simp, .inr ⟨by simp, by simp [foundAt, hil]⟩⟩
    have : ps.take i = ps := List.take_of_length_le (by omega)
    rw [this] at hlow
    exact hlow
end Go.Proofs.YtihbngfbcnojcaaGreat

namespace Go.Proofs.YtihbngfbcnojcaaGreat
open Go.RowKit

/-- What page.set leaves. -/
def PageTurned (w w' : World) (pb : Nat) (turn : Int) (v : Value) (ps : Pairs) : Prop := ∃ v', PageAt w' pb turn v' ps ∧ v'.ownBlock ≠ some pb ∧ (∀ k, k < w.heap.size → k ≠ pb → v.ownBlock ≠ some k → w'.heap[k]? = w.heap[k]?) ∧ (v'.ownBlock = v.ownBlock ∨ ∃ k, w.heap.size ≤ k ∧ v'.ownBlock = some k) ∧ Below 0 w w'

theorem owns_off {w w' : World} {base : Nat} {e : TypeId} {size n : Nat} {v : Value} {xs : List Value} (h : w.ownsRow base e size v n xs) (hk : ∀ g, v.ownBlock = some g → w'.heap[g]? = w.heap[g]?) : w'.ownsRow base e size v n xs := by
  refine ⟨h.1, ?_⟩
  rcases h.2 with h1 | ⟨g, cap, cur, h1, h2, h3, h4⟩
  · exact .inl h1
  · refine .inr ⟨g, cap, cur, h1, h2, ?_, h4⟩
    rw [hk g (by rw [h1]; rfl)]; exact h3
theorem delete_at (v : Value) (i : Nat) (ps A B : Pairs) (p : ByteArray × ByteArray) (w : World) (hps : ps = A ++ p :: B) (hA : A.length = i) (hown : w.ownsRow 0 43 2 v ps.length (pairCells ps)) (hlen : ps.length ≤ 100000) :
    Calls Tryz.prog 159 #[v, .int .i64 i, .int .i64 ((i : Int) + 1)] w fun e w' => ∃ ad c n, Hid (n = (A ++ B).length) ∧ e = .returned (.slice ad n c) ∧ Inserted w w' v (.slice ad n c) (A ++ B).length (A ++ B) := by
  have hn : ps.length = i + 1 + B.length := by rw [hps, List.length_append, hA, List.length_cons]; omega
  obtain ⟨g, cap, rfl⟩ := owns_some hown (by omega)
  rw [hn] at hown hlen ⊢
  rw [hps] at hown
  refine (delete_any g cap i B.length A B p w hA rfl hown hlen).mono ?_
  rintro e w' ⟨rfl, h1, h2, h3⟩
  have hl : (A ++ B).length = i + B.length := by rw [List.length_append, hA]
  refine ⟨_, _, _, hl.symm, rfl, by rw [hl]; exact h1, fun k hk hne => h2 k hk (fun e => hne (by rw [e]; rfl)), .inl rfl, h3⟩
theorem insert_at (v : Value) (i : Nat) (ps A B : Pairs) (p : ByteArray × ByteArray) (gv : Nat) (w : World) (hps : ps = A ++ B) (hA : A.length = i) (hown : w.ownsRow 0 43 2 v ps.length (pairCells ps)) (hgv : w.heap[gv]? = some (.cells #[.string p.1, .string p.2] 43 (0, 0)))
    (hne : v.ownBlock ≠ some gv) (hlen : ps.length ≤ 100000) :
    Calls Tryz.prog 160 #[v, .int .i64 i, .slice (some ⟨gv, 0, none⟩) 1 1] w fun e w' => ∃ ad c n, Hid (n = (A ++ p :: B).length) ∧ e = .returned (.slice ad n c) ∧ Inserted w w' v (.slice ad n c) (A ++ p :: B).length (A ++ p :: B) := by
  have hn : ps.length = i + B.length := by rw [hps, List.length_append, hA]
  rw [hn] at hown hlen
  rw [hps] at hown
  refine (insert_any v i B.length A B p gv w hA rfl hown hgv hne hlen).mono ?_
  rintro e w' ⟨v', rfl, h⟩
  have hl : (A ++ p :: B).length = i + B.length + 1 := by rw [List.length_append, hA, List.length_cons]; omega
  obtain ⟨ad, c, rfl⟩ := owns_form h.1
  refine ⟨ad, c, _, hl.symm, rfl, ?_⟩
  rw [hl]
  exact h
/-- The page's cell takes the row that came of it. -/
theorem page_took {w w2 w3 w4 : World} {pb : Nat} {turn : Int} {v v' : Value} {l : Pairs} (hB2 : Below w.heap.size w w2) (hpw : pb < w.heap.size) (hpb2 : w2.heap[pb]? = some (.cells #[.int .i64 turn, v] 180 (0, 0))) (hne : v.ownBlock ≠ some pb)
    (hB3 : Below w2.heap.size w2 w3) (hi : Inserted w3 w4 v v' l.length l) : PageTurned w (w4.setCell ⟨pb, 1, none⟩ v') pb turn v l := by
  obtain ⟨h1, h2, h3, h4⟩ := hi
  have s2 := hB2.size
  have s3 := hB3.size
  have hpb3 := (hB3.block pb (by omega)).trans hpb2
  have hpb4 := (h2 pb (by omega) hne).trans hpb3
  have hne' : v'.ownBlock ≠ some pb := by
    rcases h3 with h | ⟨k, hk, h⟩
    · rw [h]; exact hne
    · rw [h]; simp; omega
  refine ⟨v', ⟨?_, ?_⟩, hne', fun k hk hkp hkv => ?_, ?_, ?_⟩
  · exact (setCell_at w4 pb 1 v' _ _ hpb4).trans rfl
  · refine owns_off h1 (fun g hg => ?_)
    exact Below.heap_setCell _ _ _ _ (fun e => hne' (by rw [hg, e]))
  · rw [Below.heap_setCell _ _ _ _ hkp, h2 k (by omega) hkv, hB3.block k (by omega)]
    exact hB2.block k hk
  · rcases h3 with h | ⟨k, hk, h⟩
    · exact .inl h
    · exact .inr ⟨k, by omega, h⟩
  · exact ((hB2.mono (Nat.zero_le _)).trans ((hB3.mono (Nat.zero_le _)).trans h4)).setCell (p := ⟨pb, 1, none⟩) (by simp) _

set_option maxRecDepth 100000 in
set_option maxHeartbeats 1000000 in
theorem pageSet_any (pb : Nat) (turn : Int) (v : Value) (ps : Pairs) (key : ByteArray) (is : Bool) (val : ByteArray) (w : World) (hp : PageAt w pb turn v ps) (hne : v.ownBlock ≠ some pb) (hlen : ps.length ≤ 10000) (hr : RisingAt ps) :
    Calls Tryz.prog 113 #[.pointer (some ⟨pb, 0, none⟩), .string key, .agg #[.bool is, .string val]] w fun e w' => e = .returned (.tuple #[]) ∧ PageTurned w w' pb turn v (withL ps key is val) := by
  obtain ⟨hpb, hown⟩ := hp
  have hpw : pb < w.heap.size := lt_of_block' hpb
  have hlt0 : ∀ g, v.ownBlock = some g → g < w.heap.size := fun g hg => (hown.lt g hg).2
  have cp : w.cell? ⟨pb, 1, none⟩ = some v := cell_at (j := 1) hpb rfl
  obtain ⟨i, hpos⟩ := pos_exists ps key hr
  obtain ⟨A, B, hAl, hA, hB, hcase⟩ := part_at hpos hr
  have HX : Hid (∀ w1, (w.alloc (.cells #[.bool is, .string val] 38)) = w1 → w1.heap[pb]? = some (.cells #[.int .i64 turn, v] 180 (0, 0)) ∧ w1.ownsRow 0 43 2 v ps.length (pairCells ps) ∧ w1.heap[w.heap.size]? = some (.cells #[.bool is, .string val] 38 (0, 0)) ∧ Below w.heap.size w w1 ∧ w1.heap.size = w.heap.size + 1) := by
    rintro w1 rfl
    exact ⟨(Below.heap_alloc w _ pb hpw).trans hpb, hown.alloc _, heap_alloc_new w _, (Below.refl _ _).alloc (Nat.le_refl _) _, by simp⟩
  have HP : Hid (PosAt ps key i) := hpos
  have HAB : Hid ((∀ p ∈ A, blt p.1 key) ∧ (∀ p ∈ B, blt key p.1)) := ⟨hA, hB⟩
  clear hpb hown hpos hA hB
  have hil : i ≤ ps.length := HP.out.1
  have hw1 : wrap64 ((i : Int) + 1) = (i : Int) + 1 := by simp only [wrap64]; omega
  rcases hcase with ⟨v0, hps, hfo⟩ | ⟨hps, hfo⟩
  · have HPS : Hid (ps = A ++ (key, v0) :: B) := hps
    have hlt : i < ps.length := by rw [hps, List.length_append, hAl]; simp
    have hlt' : (i : Int) < (ps.length : Int) := by omega
    clear hps
    cases is with
    | true =>
      go_enter Tryz.func113, Tryz.ntmps113
      go_wp2_with (first | (go_at_call 157; go_must (
          obtain ⟨hpb1, hown1, hnew, hB, hz⟩ := HX.out _ rfl
          refine (search_any 0 v ps key _ hown1 (by omega) hr).mono ?_
          rintro e w2 ⟨i2, hpos, rfl, hb2⟩
          obtain rfl := pos_unique HP.out hpos
          have hpb2 := (hb2.block pb (by omega)).trans hpb1
          have hnew2 := (hb2.block w.heap.size (by omega)).trans hnew
          have cp2 : w2.cell? ⟨pb, 1, none⟩ = some v := cell_at (j := 1) hpb2 rfl
          have n0 : w2.cell? ⟨w.heap.size, 0, none⟩ = some (.bool true) := cell_at (j := 0) hnew2 rfl
          have n1 : w2.cell? ⟨w.heap.size, 1, none⟩ = some (.string val) := cell_at (j := 1) hnew2 rfl
          have fp2 := frozen_at 1 hpb2
          have HO2 : Hid (w2.ownsRow 0 43 2 v ps.length (pairCells ps)) := owns_below hown1 hb2 (fun g hg => by have := hlt0 g hg; omega)
          have HB2 : Hid (Below w.heap.size w w2) := hB.trans (hb2.mono hB.size)
          have HPB2 : Hid (w2.heap[pb]? = some (.cells #[.int .i64 turn, v] 180 (0, 0))) := hpb2
          have hz2 : w.heap.size + 1 ≤ w2.heap.size := by have := hb2.size; omega
          clear hpb1 hown1 hnew hB hz hpb2 hnew2 hb2 hpos cp HX)))
      have hnb := HO2.out
      obtain ⟨g, cap, rfl⟩ := owns_some hnb (by omega)
      clear hnb
      have hgN : g < w.heap.size := hlt0 g rfl
      obtain ⟨rest, hg2, hl1, hl2, hcap, hmax⟩ := owns_cur HO2.out
      have hkc : pairCells ps = pairCells A ++ [Value.string key] ++ [Value.string v0] ++ pairCells B := by rw [HPS.out]; simp [pairCells]
      have hXl : (pairCells A ++ [Value.string key]).length = i * 2 + 1 := by rw [List.length_append, pairCells_length, hAl]; simp
      have HG2 : Hid (w2.heap[g]? = some (.cells ((pairCells A ++ [Value.string key]) ++ [Value.string v0] ++ (pairCells B ++ rest)).toArray 43 (0, 0))) := by
        show _ = _
        rw [hg2, hkc]; simp
      have c0 : w2.cell? ⟨g, i * 2 + 1, none⟩ = some (.string v0) := cell_at HG2.out (by rw [List.getElem?_toArray, List.append_assoc, List.getElem?_append_right (by omega), hXl]; simp)
      have fz0 := frozen_at (i * 2 + 1) HG2.out
      have HFIN : Hid (PageTurned w (w2.drew.setCell ⟨g, i * 2 + 1, none⟩ (.string val)) pb turn (.slice (some ⟨g, 0, none⟩) ps.length cap) (withL ps key true val)) := by
        have hwl : withL ps key true val = A ++ (key, val) :: B := by rw [HPS.out, withL_found A B key v0 true val HAB.out.1 HAB.out.2]; rfl
        have h4 := setCells_list (w := w2.drew) (g := g) (t := 43) (pairCells A ++ [Value.string key]) [Value.string v0] (pairCells B ++ rest) [Value.string val] HG2.out rfl
        rw [hXl] at h4
        have hll : (A ++ (key, val) :: B).length = ps.length := by rw [HPS.out]; simp
        have hcl : (pairCells (A ++ (key, val) :: B)).length = ps.length * 2 := by rw [pairCells_length, hll]
        have hgp : pb ≠ g := fun e => hne (by rw [e]; rfl)
        rw [hwl]
        refine ⟨.slice (some ⟨g, 0, none⟩) ps.length cap, ⟨(Below.heap_setCell _ _ _ _ hgp).trans HPB2.out, ?_⟩, hne, fun k hk hkp hkv => ?_, .inl rfl, ?_⟩
        · rw [hll]
          exact owns_of (rest := rest) (Nat.zero_le _) (h4.trans (by simp [pairCells])) hcl (by rw [hcl, ← hl1]; exact hl2) hcap hmax
        · rw [Below.heap_setCell _ _ _ _ (fun e => hkv (by rw [e]; rfl))]
          exact HB2.out.block k hk
        · exact ((HB2.out.mono (Nat.zero_le _)).drew).setCell (p := ⟨g, i * 2 + 1, none⟩) (by simp) _
      clear hg2 hl1 hl2 hcap hmax hkc hXl
      go_region
      go_wp2
      go_end0
      exact ⟨rfl, HFIN.out⟩
    | false =>
      go_enter Tryz.func113, Tryz.ntmps113
      go_wp2_with (first | (go_at_call 157; go_must (
          obtain ⟨hpb1, hown1, hnew, hB, hz⟩ := HX.out _ rfl
          refine (search_any 0 v ps key _ hown1 (by omega) hr).mono ?_
          rintro e w2 ⟨i2, hpos, rfl, hb2⟩
          obtain rfl := pos_unique HP.out hpos
          have hpb2 := (hb2.block pb (by omega)).trans hpb1
          have hnew2 := (hb2.block w.heap.size (by omega)).trans hnew
          have cp2 : w2.cell? ⟨pb, 1, none⟩ = some v := cell_at (j := 1) hpb2 rfl
          have n0 : w2.cell? ⟨w.heap.size, 0, none⟩ = some (.bool false) := cell_at (j := 0) hnew2 rfl
          have n1 : w2.cell? ⟨w.heap.size, 1, none⟩ = some (.string val) := cell_at (j := 1) hnew2 rfl
          have fp2 := frozen_at 1 hpb2
          have HO2 : Hid (w2.ownsRow 0 43 2 v ps.length (pairCells ps)) := owns_below hown1 hb2 (fun g hg => by have := hlt0 g hg; omega)
          have HB2 : Hid (Below w.heap.size w w2) := hB.trans (hb2.mono hB.size)
          have HPB2 : Hid (w2.heap[pb]? = some (.cells #[.int .i64 turn, v] 180 (0, 0))) := hpb2
          have hz2 : w.heap.size + 1 ≤ w2.heap.size := by have := hb2.size; omega
          clear hpb1 hown1 hnew hB hz hpb2 hnew2 hb2 hpos cp HX)))
      refine (delete_at v i ps A B (key, v0) w2 HPS.out hAl HO2.out (by omega)).mono ?_
      rintro e w4 ⟨ad4, cap4, n4, HN4, rfl, hins⟩
      have hpt := page_took HB2.out hpw HPB2.out hne (Below.refl _ _) hins
      have HPT := @id (Hid _) hpt
      have hpb4 := (hins.2.1 pb (by omega) hne).trans HPB2.out
      have c4 : w4.cell? ⟨pb, 1, none⟩ = some v := cell_at (j := 1) hpb4 rfl
      have f4 := frozen_at 1 hpb4
      clear hpt hins hpb4
      go_wp2
      go_end0
      refine ⟨rfl, ?_⟩
      rw [HPS.out, withL_found A B key v0 false val HAB.out.1 HAB.out.2]
      exact HPT.out
  · have HPS : Hid (ps = A ++ B) := hps
    clear hps
    cases is with
    | true =>
      go_enter Tryz.func113, Tryz.ntmps113
      go_wp2_with (first | (go_at_call 157; go_must (
          obtain ⟨hpb1, hown1, hnew, hB, hz⟩ := HX.out _ rfl
          refine (search_any 0 v ps key _ hown1 (by omega) hr).mono ?_
          rintro e w2 ⟨i2, hpos, rfl, hb2⟩
          obtain rfl := pos_unique HP.out hpos
          have hpb2 := (hb2.block pb (by omega)).trans hpb1
          have hnew2 := (hb2.block w.heap.size (by omega)).trans hnew
          have cp2 : w2.cell? ⟨pb, 1, none⟩ = some v := cell_at (j := 1) hpb2 rfl
          have n0 : w2.cell? ⟨w.heap.size, 0, none⟩ = some (.bool true) := cell_at (j := 0) hnew2 rfl
          have n1 : w2.cell? ⟨w.heap.size, 1, none⟩ = some (.string val) := cell_at (j := 1) hnew2 rfl
          have fp2 := frozen_at 1 hpb2
          have HO2 : Hid (w2.ownsRow 0 43 2 v ps.length (pairCells ps)) := owns_below hown1 hb2 (fun g hg => by have := hlt0 g hg; omega)
          have HB2 : Hid (Below w.heap.size w w2) := hB.trans (hb2.mono hB.size)
          have HPB2 : Hid (w2.heap[pb]? = some (.cells #[.int .i64 turn, v] 180 (0, 0))) := hpb2
          have hz2 : w.heap.size + 1 ≤ w2.heap.size := by have := hb2.size; omega
          clear hpb1 hown1 hnew hB hz hpb2 hnew2 hb2 hpos cp HX)))
      have hpw2 : pb < w2.heap.size := by omega
      have hnw2 : w.heap.size < w2.heap.size := by omega
      have hgv : ∀ O, (w2.drew.alloc O).heap[w2.heap.size]? = some O := fun O => heap_alloc_new w2.drew O
      have HGV := @id (Hid _) hgv
      have HO3 : Hid (∀ O, (w2.drew.alloc O).ownsRow 0 43 2 v ps.length (pairCells ps)) := fun O => World.ownsRow.alloc (w := w2.drew) HO2.out O
      have HNG : Hid (v.ownBlock ≠ some w2.heap.size) := fun e => by have := hlt0 _ e; omega
      clear hgv
      go_region_with (first
        | (go_at_call 160; go_must (
            refine (insert_at v i ps A B (key, val) w2.heap.size _ HPS.out hAl (HO3.out _) (HGV.out _) HNG.out (by omega)).mono ?_
            rintro e w4 ⟨ad4, cap4, n4, HN4, rfl, hins⟩
            have hpt := page_took HB2.out hpw HPB2.out hne ((Below.refl _ _).drew.alloc (Nat.le_refl _) _) hins
            have HPT := @id (Hid _) hpt
            have hpb4 := (hins.2.1 pb (by simp; omega) hne).trans ((Below.heap_alloc w2.drew _ pb (by simp; omega)).trans HPB2.out)
            have c4 : w4.cell? ⟨pb, 1, none⟩ = some v := cell_at (j := 1) hpb4 rfl
            have f4 := frozen_at 1 hpb4
            clear hpt hins hpb4)))
      all_goals
        go_wp2
        go_end0
        refine ⟨rfl, ?_⟩
        rw [HPS.out, withL_fresh A B key true val HAB.out.1 HAB.out.2]
        exact HPT.out
    | false =>
      go_enter Tryz.func113, Tryz.ntmps113
      go_wp2_with (first | (go_at_call 157; go_must (
          obtain ⟨hpb1, hown1, hnew, hB, hz⟩ := HX.out _ rfl
          refine (search_any 0 v ps key _ hown1 (by omega) hr).mono ?_
          rintro e w2 ⟨i2, hpos, rfl, hb2⟩
          obtain rfl := pos_unique HP.out hpos
          have hpb2 := (hb2.block pb (by omega)).trans hpb1
          have hnew2 := (hb2.block w.heap.size (by omega)).trans hnew
          have cp2 : w2.cell? ⟨pb, 1, none⟩ = some v := cell_at (j := 1) hpb2 rfl
          have n0 : w2.cell? ⟨w.heap.size, 0, none⟩ = some (.bool false) := cell_at (j := 0) hnew2 rfl
          have n1 : w2.cell? ⟨w.heap.size, 1, none⟩ = some (.string val) := cell_at (j := 1) hnew2 rfl
          have fp2 := frozen_at 1 hpb2
          have HO2 : Hid (w2.ownsRow 0 43 2 v ps.length (pairCells ps)) := owns_below hown1 hb2 (fun g hg => by have := hlt0 g hg; omega)
          have HB2 : Hid (Below w.heap.size w w2) := hB.trans (hb2.mono hB.size)
          have HPB2 : Hid (w2.heap[pb]? = some (.cells #[.int .i64 turn, v] 180 (0, 0))) := hpb2
          have hz2 : w.heap.size + 1 ≤ w2.heap.size := by have := hb2.size; omega
          clear hpb1 hown1 hnew hB hz hpb2 hnew2 hb2 hpos cp HX)))
      go_end0
      refine ⟨rfl, v, ⟨HPB2.out, ?_⟩, hne, fun k hk _ _ => HB2.out.block k hk, .inl rfl, HB2.out.mono (Nat.zero_le _)⟩
      rw [HPS.out, withL_fresh A B key false val HAB.out.1 HAB.out.2]
      have := HO2.out
      rw [HPS.out] at this
      exact this
end Go.Proofs.YtihbngfbcnojcaaGreat

namespace Go.Proofs.YtihbngfbcnojcaaGreat
open Go.RowKit

/-- The sum of a key's first bytes. -/
def byteSum (s : ByteArray) : Nat → Nat
  | 0 => 0
  | n + 1 => byteSum s n + (s.data[n]?.getD 0).toNat
theorem byteSum_le (s : ByteArray) : ∀ n, byteSum s n ≤ 255 * n
  | 0 => Nat.le_refl _
  | n + 1 => by
    have := byteSum_le s n
    have h : (s.data[n]?.getD 0).toNat < 256 := UInt8.toNat_lt _
    simp only [byteSum]
    omega
def bucket (s : ByteArray) : Nat := byteSum s s.size % 8

set_option maxHeartbeats 1000000 in
theorem pageOf_any (key : ByteArray) (w : World) (hk : key.size ≤ 1000000) :
    Calls Tryz.prog 112 #[.string key] w fun e w' => e = .returned (.int .i64 (bucket key)) ∧ w = w' := by
  go_enter Tryz.func112, Tryz.ntmps112
  go_wp2
  have HK : Hid (key.size ≤ 1000000) := hk
  go_loopw [3, 7] (fun u i wr => ∃ k : Nat, k ≤ key.size ∧ i = .int .i64 k ∧ u = .int .i64 (byteSum key k) ∧ wr = w) (fun _ i _ => key.size - (intOf i).toNat)
  case atStart => exact ⟨0, by omega, rfl, rfl, rfl⟩
  case round =>
    obtain ⟨k, hk', rfl, rfl, rfl⟩ := hrel
    have hle := byteSum_le key k
    by_cases hlt : k < key.size
    · have hlt' : (k : Int) < (key.size : Int) := by omega
      have hs : byteSum key (k + 1) = byteSum key k + (key.data[k]?.getD 0).toNat := rfl
      have hb : (key.data[k]?.getD 0).toNat < 256 := UInt8.toNat_lt _
      have HS : Hid (byteSum key (k + 1) = byteSum key k + (key.data[k]?.getD 0).toNat) := hs
      clear hs
      have HE : Hid (key[k].toNat = (key.data[k]?.getD 0).toNat) := by
        show _ = _
        have h2 : k < key.data.size := hlt
        rw [Array.getElem?_eq_getElem h2]
        rfl
      go_wp2
      refine ⟨⟨k + 1, by omega, by simp, ?_, trivial⟩, by simp [intOf]; omega⟩
      have h1 := HS.out
      have h2 := HE.out
      have h3 := HK.out
      rw [h1, h2]
      clear HS HE h1 h2
      generalize (key.data[k]?.getD 0).toNat = b at hb
      generalize byteSum key k = t at hle
      have e1 : wrap64 (b : Int) = b := by unfold wrap64; omega
      rw [e1]
      have e2 : wrap64 ((t : Int) + b) = ((t + b : Nat) : Int) := by unfold wrap64; omega
      rw [e2]
    · have hlt' : ¬ (k : Int) < (key.size : Int) := by omega
      have hkk : k = key.size := by omega
      subst hkk
      go_wp2
      go_ret
      exact ⟨by rw [bucket]; rfl, rfl⟩
end Go.Proofs.YtihbngfbcnojcaaGreat

namespace Go.Proofs.YtihbngfbcnojcaaGreat
open Go.RowKit

/-- The bytes of half a page. -/
def halfBody (k1 v1 k2 v2 : ByteArray) : List Value := textCells k1 8 ++ textCells v1 12 ++ textCells k2 8 ++ textCells v2 12
def slotPairs (k v : ByteArray) : Pairs := if k = ByteArray.empty then [] else [(k, v)]
theorem textCells_length' (s : ByteArray) (r : Nat) (h : s.size ≤ r) : (textCells s r).length = 1 + r := by
  simp only [textCells, List.length_append, List.length_replicate, Lib.strCells_length, List.length_cons, List.length_nil]; omega
theorem halfBody_length (k1 v1 k2 v2 : ByteArray) (h1 : k1.size ≤ 8) (h2 : v1.size ≤ 12) (h3 : k2.size ≤ 8) (h4 : v2.size ≤ 12) : (halfBody k1 v1 k2 v2).length = 44 := by
  simp only [halfBody, List.length_append, textCells_length' _ _ h1, textCells_length' _ _ h2, textCells_length' _ _ h3, textCells_length' _ _ h4]
theorem halfBody_byte (k1 v1 k2 v2 : ByteArray) (h1 : k1.size ≤ 8) (h2 : v1.size ≤ 12) (h3 : k2.size ≤ 8) (h4 : v2.size ≤ 12) : ∀ u ∈ halfBody k1 v1 k2 v2, IsByte u := by
  intro u hu
  simp only [halfBody, List.mem_append] at hu
  rcases hu with ((h | h) | h) | h
  · exact text_byte _ _ (by omega) u h
  · exact text_byte _ _ (by omega) u h
  · exact text_byte _ _ (by omega) u h
  · exact text_byte _ _ (by omega) u h
/-- Where the texts of half a page lie. -/
theorem half_at (a b : Int) (k1 v1 k2 v2 : ByteArray) (h1 : k1.size ≤ 8) (h2 : v1.size ≤ 12) (h3 : k2.size ≤ 8) {W : World} {g : Nat} {t : TypeId} (hg : W.heap[g]? = some (.cells (sealed a b (halfBody k1 v1 k2 v2)).toArray t (0, 0))) :
    (∀ j u, (textCells k1 8)[j]? = some u → W.cell? ⟨g, 8 + 22 * 0 + j, none⟩ = some u) ∧ (∀ j u, (textCells v1 12)[j]? = some u → W.cell? ⟨g, 8 + 22 * 0 + 9 + j, none⟩ = some u) ∧
    (∀ j u, (textCells k2 8)[j]? = some u → W.cell? ⟨g, 8 + 22 * 1 + j, none⟩ = some u) ∧ (∀ j u, (textCells v2 12)[j]? = some u → W.cell? ⟨g, 8 + 22 * 1 + 9 + j, none⟩ = some u) := by
  have la := be_length a 4
  have lb := be_length b 4
  have e1 := textCells_length' k1 8 h1
  have e2 := textCells_length' v1 12 h2
  have e3 := textCells_length' k2 8 h3
  have hc : ∀ i u, (sealed a b (halfBody k1 v1 k2 v2))[i]? = some u → W.cell? ⟨g, i, none⟩ = some u := fun i u hu => cell_at hg (by simpa using hu)
  refine ⟨fun j u hu => hc _ u ?_, fun j u hu => hc _ u ?_, fun j u hu => hc _ u ?_, fun j u hu => hc _ u ?_⟩
  · have := at_part (pre := be a 4 ++ be b 4) (x := textCells k1 8) (post := textCells v1 12 ++ textCells k2 8 ++ textCells v2 12 ++ List.replicate (48 - (halfBody k1 v1 k2 v2).length) (Value.int .u8 0) ++ (be a 4 ++ be b 4)) hu
    rw [List.length_append, la, lb] at this
    rw [show 8 + 22 * 0 + j = 4 + 4 + j by omega]
    simpa only [sealed, halfBody, List.append_assoc] using this
  · have := at_part (pre := be a 4 ++ be b 4 ++ textCells k1 8) (x := textCells v1 12) (post := textCells k2 8 ++ textCells v2 12 ++ List.replicate (48 - (halfBody k1 v1 k2 v2).length) (Value.int .u8 0) ++ (be a 4 ++ be b 4)) hu
    rw [List.length_append, List.length_append, la, lb, e1] at this
    rw [show 8 + 22 * 0 + 9 + j = 4 + 4 + (1 + 8) + j by omega]
    simpa only [sealed, halfBody, List.append_assoc] using this
  · have := at_part (pre := be a 4 ++ be b 4 ++ textCells k1 8 ++ textCells v1 12) (x := textCells k2 8) (post := textCells v2 12 ++ List.replicate (48 - (halfBody k1 v1 k2 v2).length) (Value.int .u8 0) ++ (be a 4 ++ be b 4)) hu
    rw [List.length_append, List.length_append, List.length_append, la, lb, e1, e2] at this
    rw [show 8 + 22 * 1 + j = 4 + 4 + (1 + 8) + (1 + 12) + j by omega]
    simpa only [sealed, halfBody, List.append_assoc] using this
  · have := at_part (pre := be a 4 ++ be b 4 ++ textCells k1 8 ++ textCells v1 12 ++ textCells k2 8) (x := textCells v2 12) (post := List.replicate (48 - (halfBody k1 v1 k2 v2).length) (Value.int .u8 0) ++ (be a 4 ++ be b 4)) hu
    rw [List.length_append, List.length_append, List.length_append, List.length_append, la, lb, e1, e2, e3] at this
    rw [show 8 + 22 * 1 + 9 + j = 4 + 4 + (1 + 8) + (1 + 12) + (1 + 8) + j by omega]
    simpa only [sealed, halfBody, List.append_assoc] using this

theorem heap_alloc_new2 (w : World) (o o' : Obj) : ((w.alloc o).alloc o').heap[w.heap.size + 1]? = some o' := by
  have := heap_alloc_new (w.alloc o) o'; simpa using this
theorem owns_mono {w : World} {base base' : Nat} {e : TypeId} {size n : Nat} {v : Value} {xs : List Value} (h : w.ownsRow base e size v n xs) (hb : base' ≤ base) : w.ownsRow base' e size v n xs := by
  refine ⟨h.1, ?_⟩
  rcases h.2 with h1 | ⟨g, cap, cur, h1, h2, h3⟩
  · exact .inl h1
  · exact .inr ⟨g, cap, cur, h1, by omega, h3⟩
/-- What half a page holds, of its first slots. -/
def upPairs (k1 v1 k2 v2 : ByteArray) : Nat → Pairs
  | 0 => []
  | 1 => slotPairs k1 v1
  | _ => slotPairs k1 v1 ++ slotPairs k2 v2

set_option maxRecDepth 100000 in
set_option maxHeartbeats 2000000 in
theorem unpackHalf_ok (a b : Int) (k1 v1 k2 v2 : ByteArray) (w : World) (ha : 0 ≤ a) (ha' : a < 4294967295) (hb : 0 ≤ b) (hb' : b < 4294967296) (h1 : k1.size ≤ 8) (h2 : v1.size ≤ 12) (h3 : k2.size ≤ 8) (h4 : v2.size ≤ 12) :
    Calls Tryz.prog 219 #[.agg (sealed a b (halfBody k1 v1 k2 v2)).toArray] w fun e w' => ∃ v, e = .returned (.tuple #[.agg #[.int .u32 a, .int .u32 b], v, .bool true]) ∧
      w'.ownsRow w.heap.size 43 2 v (upPairs k1 v1 k2 v2 2).length (pairCells (upPairs k1 v1 k2 v2 2)) ∧ Below w.heap.size w w' := by
  have HUN := @id (Hid (∀ w, Calls _ _ _ w _)) (fun w => unseal_any a b (halfBody k1 v1 k2 v2) w ha ha' hb hb' (by rw [halfBody_length k1 v1 k2 v2 h1 h2 h3 h4]; omega) (halfBody_byte k1 v1 k2 v2 h1 h2 h3 h4))
  have HAT : Hid (∀ (W : World) (g : Nat), W.heap[g]? = some (.cells (sealed a b (halfBody k1 v1 k2 v2)).toArray 98 (0, 0)) → _) := fun W g hg => half_at a b k1 v1 k2 v2 h1 h2 h3 hg
  have hsz : (sealed a b (halfBody k1 v1 k2 v2)).length = 64 := sealed_length a b _ (by rw [halfBody_length k1 v1 k2 v2 h1 h2 h3 h4]; omega)
  generalize sealed a b (halfBody k1 v1 k2 v2) = S at HUN HAT hsz ⊢
  have hi9 : (Tryz.prog.info? 98).map (·.size) = some S.length := by rw [hsz]; kernel_rfl
  have HR : Hid (∀ W : World, W.heap[w.heap.size]? = some (.cells S.toArray 98 (0, 0)) → W.rangeAt w.heap.size 0 S) := fun W hW j u hu => by rw [Nat.zero_add]; exact cell_at hW (by simpa using hu)
  go_enter Tryz.func219, Tryz.ntmps219
  go_wp2_with (first
    | (refine wpList_load_mid rfl 98 (.tmp 1) rfl w.heap.size 0 (by rfl) S _ (HR.out _ ((Below.heap_alloc _ _ _ (by simp)).trans (heap_alloc_new w _))) Tryz.underlying98 rfl hi9 ?_)
    | (go_at_call 151; go_must (
        refine (HUN.out _).mono ?_
        rintro e w1 ⟨rfl, hs1, hb1⟩
        have HS1 := @id (Hid _) hs1
        have HB1 := @id (Hid _) hb1
        clear hb1 hs1)))
  have hz0 : ((w.alloc (.cells S.toArray 98)).alloc (.cells #[.int .u32 0, .int .u32 0] 168)).heap.size = w.heap.size + 1 + 1 := by simp
  have hs1 := HS1.out
  have hb1 := HB1.out
  rw [hz0] at hs1 hb1
  have hz1 : w.heap.size + 1 + 1 < w1.heap.size := lt_of_block' hs1
  have hr1 : w1.heap[w.heap.size + 1]? = some (.cells #[.int .u32 0, .int .u32 0] 168 (0, 0)) := (hb1.block _ (by omega)).trans (by have := heap_alloc_new (w.alloc (.cells S.toArray 98)) (.cells #[.int .u32 0, .int .u32 0] 168); simpa using this)
  obtain ⟨W2, hW2⟩ : ∃ W2, (w1.alloc (.cells #[.int .u32 a, .int .u32 b] 168)).alloc (.cells #[.slice (some ⟨w.heap.size + 1 + 1, 8, none⟩) 48 56, .bool false] 243) = W2 := ⟨_, rfl⟩
  have HB2 : Hid (Below w.heap.size w W2) := by
    show Below _ _ _
    rw [← hW2]
    exact ((((((Below.refl _ w).alloc (Nat.le_refl _) _).alloc (by simp) _).trans (hb1.mono (by omega))).alloc (by omega) _)).alloc (by simp; omega) _
  have HG : Hid (W2.heap[w.heap.size + 1 + 1]? = some (.cells S.toArray 98 (0, 0))) := by show _ = _; rw [← hW2, Below.heap_alloc _ _ _ (by simp; omega), Below.heap_alloc _ _ _ (by omega)]; exact hs1
  have HR1 : Hid (W2.heap[w.heap.size + 1]? = some (.cells #[.int .u32 0, .int .u32 0] 168 (0, 0))) := by show _ = _; rw [← hW2, Below.heap_alloc _ _ _ (by simp; omega), Below.heap_alloc _ _ _ (by omega)]; exact hr1
  have HP5 : Hid (W2.heap[w1.heap.size]? = some (.cells #[.int .u32 a, .int .u32 b] 168 (0, 0))) := by show _ = _; rw [← hW2, Below.heap_alloc _ _ _ (by simp)]; exact heap_alloc_new w1 _
  have HRB : Hid (ReaderAt W2 (w1.heap.size + 1) (some ⟨w.heap.size + 1 + 1, 8, none⟩) 48 56 false) := by
    show ReaderAt _ _ _ _ _ _
    rw [← hW2]
    have := heap_alloc_new (w1.alloc (.cells #[.int .u32 a, .int .u32 b] 168)) (.cells #[.slice (some ⟨w.heap.size + 1 + 1, 8, none⟩) 48 56, .bool false] 243)
    simpa [ReaderAt] using this
  have hz2 : W2.heap.size = w1.heap.size + 2 := by rw [← hW2]; simp
  rw [hW2]
  generalize hgb : w.heap.size + 1 + 1 = gb at *
  generalize w1.heap.size = p5 at *
  clear hW2 hs1 hb1 hr1 HS1 HB1 HUN hz0 HR
  go_loopw [9, 22] (fun v i wr => ∃ k : Nat, k ≤ 2 ∧ i = .int .i64 k ∧ wr.ownsRow (p5 + 1 + 1) 43 2 v (upPairs k1 v1 k2 v2 k).length (pairCells (upPairs k1 v1 k2 v2 k)) ∧ ReaderAt wr (p5 + 1) (some ⟨gb, 8 + 22 * k, none⟩) (48 - 22 * k) (56 - 22 * k) false ∧ (∀ q, q < p5 + 1 → wr.heap[q]? = W2.heap[q]?) ∧ Below 0 W2 wr) (fun _ i _ => 2 - (intOf i).toNat)
  case atStart => exact ⟨0, by omega, rfl, World.ownsRow_nil _ _ _ _, HRB.out, fun _ _ => rfl, Below.refl _ _⟩
  case round =>
    obtain ⟨k, hk, rfl, hown, hrd, hfr, hbw⟩ := hrel
    have hgr : wr.heap[gb]? = some (.cells S.toArray 98 (0, 0)) := (hfr gb (by omega)).trans HG.out
    by_cases hlt : k < 2
    · obtain ⟨kk, vv, hks, hvs, hKT, hVT, hup⟩ : ∃ kk vv : ByteArray, kk.size ≤ 8 ∧ vv.size ≤ 12 ∧ (∀ (W : World), W.heap[gb]? = some (.cells S.toArray 98 (0, 0)) → ∀ j u, (textCells kk 8)[j]? = some u → W.cell? ⟨gb, 8 + 22 * k + j, none⟩ = some u) ∧ (∀ (W : World), W.heap[gb]? = some (.cells S.toArray 98 (0, 0)) → ∀ j u, (textCells vv 12)[j]? = some u → W.cell? ⟨gb, 8 + 22 * k + 9 + j, none⟩ = some u) ∧ upPairs k1 v1 k2 v2 (k + 1) = upPairs k1 v1 k2 v2 k ++ slotPairs kk vv := by
        match k, hlt with
        | 0, _ => exact ⟨k1, v1, h1, h2, fun W h => (HAT.out W gb h).1, fun W h => (HAT.out W gb h).2.1, rfl⟩
        | 1, _ => exact ⟨k2, v2, h3, h4, fun W h => (HAT.out W gb h).2.2.1, fun W h => (HAT.out W gb h).2.2.2, rfl⟩
      have hlt' : (k : Int) < 2 := by omega
      have tok1 : True := trivial
      have tok2 : True := trivial
      have KK := text_ok (p5 + 1) gb (8 + 22 * k) (48 - 22 * k) (56 - 22 * k) 8 false wr hrd (by omega) (by omega) (by omega) (by omega) (by omega) (by omega) kk hks (hKT wr hgr)
      have HUP : Hid (upPairs k1 v1 k2 v2 (k + 1) = upPairs k1 v1 k2 v2 k ++ slotPairs kk vv) := hup
      have HVT : Hid (∀ (W : World), W.heap[gb]? = some (.cells S.toArray 98 (0, 0)) → ∀ j u, (textCells vv 12)[j]? = some u → W.cell? ⟨gb, 8 + 22 * k + 9 + j, none⟩ = some u) := hVT
      have HFR : Hid (∀ q, q < p5 + 1 → wr.heap[q]? = W2.heap[q]?) := hfr
      have HBW : Hid (Below 0 W2 wr) := hbw
      have HGR : Hid (wr.heap[gb]? = some (.cells S.toArray 98 (0, 0))) := hgr
      have HOW : Hid (wr.ownsRow (p5 + 1 + 1) 43 2 u9 (upPairs k1 v1 k2 v2 k).length (pairCells (upPairs k1 v1 k2 v2 k))) := hown
      have hlr : p5 + 1 < wr.heap.size := lt_of_block' hrd
      have hup2 : (upPairs k1 v1 k2 v2 k).length ≤ 2 := by
        have h01 : ∀ x y, (slotPairs x y).length ≤ 1 := fun x y => by unfold slotPairs; split <;> simp
        match k with
        | 0 => simp [upPairs]
        | 1 => have := h01 k1 v1; simp [upPairs]; omega
        | n + 2 => have := h01 k1 v1; have := h01 k2 v2; simp [upPairs]; omega
      generalize hU1 : upPairs k1 v1 k2 v2 (k + 1) = U' at HUP
      have HU1 : Hid (upPairs k1 v1 k2 v2 (k + 1) = U') := hU1
      clear hU1
      generalize upPairs k1 v1 k2 v2 k = U at HUP HOW hup2
      clear hup hVT hKT hfr hbw hgr hown hrd
      by_cases hke : kk = ByteArray.empty
      · have HU : Hid (U' = U) := by show _ = _; rw [HUP.out, slotPairs, if_pos hke]; simp
        subst hke
        go_wp2_with (first
          | (go_at_call 197; have _t := tok1; go_must (
              refine KK.mono ?_
              rintro e w3 ⟨rfl, hrd3, ho3, hz3, hb3⟩
              have hg3 := (ho3 gb (by omega)).trans HGR.out
              have KV := text_ok (p5 + 1) gb (8 + 22 * k + 9) (48 - 22 * k - 9) (56 - 22 * k - 9) 12 false w3 hrd3 (by omega) (by omega) (by omega) (by omega) (by omega) (by omega) vv hvs (HVT.out w3 hg3)
              have HF3 : Hid (∀ q, q ≠ p5 + 1 → w3.heap[q]? = wr.heap[q]?) := ho3
              have HZ3 : Hid (w3.heap.size = wr.heap.size) := hz3
              have HB3 : Hid (Below 0 wr w3) := hb3
              clear hrd3 ho3 hz3 hb3 hg3 tok1 KK))
          | (go_at_call 197; have _t := tok2; go_must (
              refine KV.mono ?_
              rintro e w4 ⟨rfl, hrd4, ho4, hz4, hb4⟩
              have HRD4 := @id (Hid _) hrd4
              have HF4 : Hid (∀ q, q ≠ p5 + 1 → w4.heap[q]? = wr.heap[q]?) := fun q hq => (ho4 q hq).trans (HF3.out q hq)
              have HZ4 : Hid (w4.heap.size = wr.heap.size) := hz4.trans HZ3.out
              have HB4 : Hid (Below 0 wr w4) := HB3.out.trans hb4
              clear hrd4 ho4 hz4 hb4 tok2 KV)))
        have hz4 := HZ4.out
        have hb5 : Below w4.heap.size w4 (w4.alloc (.cells #[.string ByteArray.empty, .string vv] 43)) := (Below.refl _ _).alloc (Nat.le_refl _) _
        refine ⟨⟨k + 1, by omega, by simp, ?_, ?_, fun q hq => ?_, ?_⟩, by simp [intOf]; omega⟩
        · rw [HU1.out, HU.out]; exact (owns_off HOW.out (fun g hg => HF4.out g (by have := (HOW.out.lt g hg).1; omega))).alloc _
        · have := (hb5.block (p5 + 1) (by omega)).trans HRD4.out
          have e1 : 8 + 22 * k + 9 + (1 + 12) = 8 + 22 * (k + 1) := by omega
          have e2 : 48 - 22 * k - 9 - (1 + 12) = 48 - 22 * (k + 1) := by omega
          have e3 : 56 - 22 * k - 9 - (1 + 12) = 56 - 22 * (k + 1) := by omega
          rw [e1, e2, e3] at this
          exact this
        · rw [hb5.block q (by omega), HF4.out q (by omega)]; exact HFR.out q hq
        · exact HBW.out.trans (HB4.out.trans (hb5.mono (Nat.zero_le _)))
      · have HU : Hid (U' = U ++ [(kk, vv)]) := by show _ = _; rw [HUP.out, slotPairs, if_neg hke]
        have hke' : kk.toList.isEmpty = false := by
          cases hh : kk.toList with
          | nil => exact absurd (toList_inj (hh.trans (by rw [Lib.toList_data]; rfl))) hke
          | cons _ _ => rfl
        go_wp2_with (first
          | (go_at_call 197; have _t := tok1; go_must (
              refine KK.mono ?_
              rintro e w3 ⟨rfl, hrd3, ho3, hz3, hb3⟩
              have hg3 := (ho3 gb (by omega)).trans HGR.out
              have KV := text_ok (p5 + 1) gb (8 + 22 * k + 9) (48 - 22 * k - 9) (56 - 22 * k - 9) 12 false w3 hrd3 (by omega) (by omega) (by omega) (by omega) (by omega) (by omega) vv hvs (HVT.out w3 hg3)
              have HF3 : Hid (∀ q, q ≠ p5 + 1 → w3.heap[q]? = wr.heap[q]?) := ho3
              have HZ3 : Hid (w3.heap.size = wr.heap.size) := hz3
              have HB3 : Hid (Below 0 wr w3) := hb3
              clear hrd3 ho3 hz3 hb3 hg3 tok1 KK))
          | (go_at_call 197; have _t := tok2; go_must (
              refine KV.mono ?_
              rintro e w4 ⟨rfl, hrd4, ho4, hz4, hb4⟩
              have HRD4 := @id (Hid _) hrd4
              have HF4 : Hid (∀ q, q ≠ p5 + 1 → w4.heap[q]? = wr.heap[q]?) := fun q hq => (ho4 q hq).trans (HF3.out q hq)
              have HZ4 : Hid (w4.heap.size = wr.heap.size) := hz4.trans HZ3.out
              have HB4 : Hid (Below 0 wr w4) := HB3.out.trans hb4
              clear hrd4 ho4 hz4 hb4 tok2 KV))
          | (at_builtin; go_must (
              refine wpList_append_pair rfl _ _ rfl (p5 + 1 + 1) u9 U rfl ?hown (w4.heap.size + 1) kk vv rfl ?hnew (by omega) ?hbase ?_
              case hown => exact ((owns_off HOW.out (fun g hg => HF4.out g (by have := (HOW.out.lt g hg).1; omega))).alloc _).alloc _
              case hnew => exact heap_alloc_new2 w4 _ _
              case hbase => have := HZ4.out; simp; omega
              intro v5 w5 hown5 hb5
              have HB5 : Hid (Below (p5 + 1 + 1) w4 w5) := (((Below.refl _ _).alloc (by have := HZ4.out; omega) _).alloc (by have := HZ4.out; simp; omega) _).trans hb5
              clear hb5)))
        have hz4 := HZ4.out
        refine ⟨⟨k + 1, by omega, by simp, ?_, ?_, fun q hq => ?_, ?_⟩, by simp [intOf]; omega⟩
        · rw [HU1.out, HU.out]; exact hown5
        · have := (HB5.out.block (p5 + 1) (by omega)).trans HRD4.out
          have e1 : 8 + 22 * k + 9 + (1 + 12) = 8 + 22 * (k + 1) := by omega
          have e2 : 48 - 22 * k - 9 - (1 + 12) = 48 - 22 * (k + 1) := by omega
          have e3 : 56 - 22 * k - 9 - (1 + 12) = 56 - 22 * (k + 1) := by omega
          rw [e1, e2, e3] at this
          exact this
        · rw [HB5.out.block q (by omega), HF4.out q (by omega)]; exact HFR.out q hq
        · exact HBW.out.trans (HB4.out.trans (HB5.out.mono (Nat.zero_le _)))
    · obtain rfl : k = 2 := by omega
      have q1 := (hfr (w.heap.size + 1) (by omega)).trans HR1.out
      have q5 := (hfr p5 (by omega)).trans HP5.out
      have c1 := cell_at (j := 0) q1 rfl
      have c2 := cell_at (j := 1) q1 rfl
      have f1 := frozen_at 0 q1
      have f2 := frozen_at 1 q1
      have c5 := cell_at (j := 0) q5 rfl
      have c6 := cell_at (j := 1) q5 rfl
      have c7 : wr.cell? ⟨p5 + 1, 1, none⟩ = some (.bool false) := cell_at (j := 1) hrd rfl
      have HQ1 := @id (Hid _) q1
      have HOW : Hid (wr.ownsRow (p5 + 1 + 1) 43 2 u9 (upPairs k1 v1 k2 v2 2).length (pairCells (upPairs k1 v1 k2 v2 2))) := hown
      have HBF : Hid (Below w.heap.size w wr) := ⟨hbw.os.trans HB2.out.os, hbw.tape.trans HB2.out.tape, hbw.output.trans HB2.out.output, by have := hbw.size; have := HB2.out.size; omega, fun q hq => (hfr q (by omega)).trans (HB2.out.block q hq)⟩
      clear q1 q5 hown hbw hfr hrd
      go_wp2
      go_region
      all_goals
        go_wp2
        have k3 := setCell_at _ (w.heap.size + 1) 1 (.int .u32 b) _ 168 (setCell_at wr (w.heap.size + 1) 0 (.int .u32 a) _ 168 HQ1.out)
        have m0 := cell_at (j := 0) k3 rfl
        have m1 := cell_at (j := 1) k3 rfl
        refine bodyPost_ret (v := .tuple #[.agg #[.int .u32 a, .int .u32 b], u9, .bool true]) ?_ rfl ⟨u9, rfl, ?_, ?_⟩
        · simp [results, Tryz.results219, go_sem, m0, m1]
        · refine owns_mono (owns_off (w := wr) HOW.out (fun g hg => ?_)) (show w.heap.size ≤ p5 + 1 + 1 by omega)
          have := (HOW.out.lt g hg).1
          exact (Below.heap_setCell _ _ _ _ (show g ≠ w.heap.size + 1 by omega)).trans (Below.heap_setCell _ _ _ _ (show g ≠ w.heap.size + 1 by omega))
        · exact ((HBF.out.setCell (p := ⟨w.heap.size + 1, 0, none⟩) (by simp) _).setCell (p := ⟨w.heap.size + 1, 1, none⟩) (by simp) _).drew
end Go.Proofs.YtihbngfbcnojcaaGreat

namespace Go.Proofs.YtihbngfbcnojcaaGreat
open Go.RowKit

/-- 'append(l, m...)' of pairs, to a row of the call's own. -/
theorem wpList_append_pairs {ops : Array Oper} {rest : List Oper} {o : Oper} {ac : Act} {w : World} {Q : Exit → Act → World → Prop} (hgd : o.guard = none) (s x : Operand)
    (ho : o.op = .call { callee := .builtin .append, args := #[s, x], argTypes := #[34, 34] }) (base base' : Nat) (v u : Value) (l m : Pairs) (hs : ac.eval s = v) (hown : w.ownsRow base 43 2 v l.length (pairCells l))
    (hx : ac.eval x = u) (hu : w.ownsRow base' 43 2 u m.length (pairCells m)) (hlen : l.length ≤ 1000000) (hlen' : m.length ≤ 1000000) (hbase : base ≤ w.heap.size)
    (h : ∀ v' w', w'.ownsRow base 43 2 v' (l ++ m).length (pairCells (l ++ m)) → Below base w w' → (∀ k, k < w.heap.size → v.ownBlock ≠ some k → w'.heap[k]? = w.heap[k]?) → wpList Tryz.prog ops Q rest (ac.put o.dst v') w') : wpList Tryz.prog ops Q (o :: rest) ac w := by
  obtain ⟨i0, hi, hz0, hz1, hz2⟩ := info_parts infoPair
  rcases hu.2 with ⟨rfl, hm⟩ | ⟨g, cap, cur, rfl, hg, hgg, hcap, hmax, hcs, htake⟩
  · obtain rfl : m = [] := List.eq_nil_of_length_eq_zero hm
    rw [List.append_nil] at h
    have hv : ∃ ad cap, v = .slice ad l.length cap ∧ l.length ≤ cap := by
      rcases hown.2 with ⟨h1, h2⟩ | ⟨g, cap, cur, h1, _, _, h4, _⟩
      · exact ⟨none, 0, by rw [h2]; exact h1, by omega⟩
      · exact ⟨_, _, h1, h4⟩
    obtain ⟨ad, cap, rfl, hle⟩ := hv
    exact Lib.wpList_append_run w hgd s x _ _ ho _ _ hs hx _ _ (run_append_nothing w _ _ _ _ i0 Tryz.underlying34 hi ad l.length cap hle _ (Src.ofNil w Tryz.underlying34 0)) (h _ _ hown (Below.refl _ _) (fun _ _ _ => rfl))
  · refine wpList_append_own_at w hgd s x 34 ho base 43 i0 _ 2 32 Tryz.underlying34 hi hz0 hz1 hz2 rfl (by decide) v l.length (pairCells l) hs hown ⟨g, 0, none⟩ m.length cap (pairCells m) hx (pairCells_length m) (fun j u hu' => by
        rw [add_zero0]
        refine cell_at hgg ?_
        rw [← htake, List.getElem?_take] at hu'
        split at hu'
        · simpa using hu'
        · cases hu') (pairCells_one m) (by unfold maxLen; omega) (by omega) hbase ?_
    intro v' w' h1 h2 _ _
    refine h v' w' ?_ (grown_below h2 hown (Nat.le_refl _) hbase) (fun k h3 h4 => h2.block k h3 (fun e => h4 e.symm))
    rw [List.length_append, pairCells_append]; exact h1

set_option maxRecDepth 100000 in
set_option maxHeartbeats 2000000 in
theorem unpackPage_ok (a b : Int) (k1 v1 k2 v2 k3 v3 k4 v4 : ByteArray) (w : World) (ha : 0 ≤ a) (ha' : a < 4294967295) (hb : 0 ≤ b) (hb' : b < 4294967296) (h1 : k1.size ≤ 8) (h2 : v1.size ≤ 12) (h3 : k2.size ≤ 8) (h4 : v2.size ≤ 12) (h5 : k3.size ≤ 8) (h6 : v3.size ≤ 12) (h7 : k4.size ≤ 8) (h8 : v4.size ≤ 12) :
    Calls Tryz.prog 188 #[.agg (sealed a b (halfBody k1 v1 k2 v2) ++ sealed a b (halfBody k3 v3 k4 v4)).toArray] w fun e w' => ∃ v, e = .returned (.tuple #[.agg #[.int .u32 a, .int .u32 b], v, .bool true]) ∧
      w'.ownsRow w.heap.size 43 2 v (upPairs k1 v1 k2 v2 2 ++ upPairs k3 v3 k4 v4 2).length (pairCells (upPairs k1 v1 k2 v2 2 ++ upPairs k3 v3 k4 v4 2)) ∧ Below w.heap.size w w' := by
  have HU1 := @id (Hid (∀ w, Calls _ _ _ w _)) (fun w => unpackHalf_ok a b k1 v1 k2 v2 w ha ha' hb hb' h1 h2 h3 h4)
  have HU2 := @id (Hid (∀ w, Calls _ _ _ w _)) (fun w => unpackHalf_ok a b k3 v3 k4 v4 w ha ha' hb hb' h5 h6 h7 h8)
  have hs1 : (sealed a b (halfBody k1 v1 k2 v2)).length = 64 := sealed_length a b _ (by rw [halfBody_length k1 v1 k2 v2 h1 h2 h3 h4]; omega)
  have hs2 : (sealed a b (halfBody k3 v3 k4 v4)).length = 64 := sealed_length a b _ (by rw [halfBody_length k3 v3 k4 v4 h5 h6 h7 h8]; omega)
  have ho2 : ∀ u ∈ sealed a b (halfBody k3 v3 k4 v4), u.oneCell' = true := sealed_one a b _ (fun u hu => by obtain ⟨x, rfl, _⟩ := halfBody_byte k3 v3 k4 v4 h5 h6 h7 h8 u hu; rfl)
  have hl : ∀ k1 v1 k2 v2, (upPairs k1 v1 k2 v2 2).length ≤ 2 := fun k1 v1 k2 v2 => by
    have h01 : ∀ x y, (slotPairs x y).length ≤ 1 := fun x y => by unfold slotPairs; split <;> simp
    have := h01 k1 v1; have := h01 k2 v2; simp [upPairs]; omega
  have hl1 := hl k1 v1 k2 v2
  have hl2 := hl k3 v3 k4 v4
  generalize sealed a b (halfBody k1 v1 k2 v2) = S1 at HU1 hs1 ⊢
  generalize sealed a b (halfBody k3 v3 k4 v4) = S2 at HU2 hs2 ho2 ⊢
  generalize upPairs k1 v1 k2 v2 2 = P1 at HU1 hl1 ⊢
  generalize upPairs k3 v3 k4 v4 2 = P2 at HU2 hl2 ⊢
  have hi1 : (Tryz.prog.info? 98).map (·.size) = some S1.length := by rw [hs1]; kernel_rfl
  have hi2 : (Tryz.prog.info? 98).map (·.size) = some S2.length := by rw [hs2]; kernel_rfl
  have HR1 : Hid (∀ W : World, W.heap[w.heap.size]? = some (.cells (S1 ++ S2).toArray 256 (0, 0)) → W.rangeAt w.heap.size 0 S1) := fun W hW j u hu => by
    rw [Nat.zero_add]; exact cell_at hW (by rw [List.getElem?_toArray, List.getElem?_append_left (List.getElem?_eq_some_iff.1 hu).1]; exact hu)
  have HR2 : Hid (∀ W : World, W.heap[w.heap.size]? = some (.cells (S1 ++ S2).toArray 256 (0, 0)) → W.rangeAt w.heap.size 64 S2) := fun W hW j u hu => by
    exact cell_at hW (by rw [List.getElem?_toArray, List.getElem?_append_right (by omega), hs1]; simpa using hu)
  clear hl h1 h2 h3 h4 h5 h6 h7 h8
  go_enter Tryz.func188, Tryz.ntmps188
  go_wp2_with (first
    | (refine wpList_load_mid rfl 98 (.tmp 14) rfl w.heap.size 0 (by rfl) S1 _ (HR1.out _ ((Below.heap_alloc _ _ _ (by simp)).trans (heap_alloc_new w _))) Tryz.underlying98 rfl hi1 ?_)
    | (go_at_call 219; go_must (
        refine (HU1.out _).mono ?_
        rintro e w1 ⟨x1, rfl, hx1, hb1⟩
        have HX1 := @id (Hid _) hx1
        have HB1 := @id (Hid _) hb1
        clear hb1 hx1)))
  have hz0 : ((w.alloc (.cells (S1 ++ S2).toArray 256)).alloc (.cells #[.int .u32 0, .int .u32 0] 168)).heap.size = w.heap.size + 1 + 1 := by simp
  have hx1 : w1.ownsRow (w.heap.size + 1 + 1) 43 2 x1 P1.length (pairCells P1) := by have := HX1.out; rw [hz0] at this; exact this
  have hb1 : Below (w.heap.size + 1 + 1) ((w.alloc (.cells (S1 ++ S2).toArray 256)).alloc (.cells #[.int .u32 0, .int .u32 0] 168)) w1 := by have := HB1.out; rw [hz0] at this; exact this
  have hz1 : w.heap.size + 1 + 1 ≤ w1.heap.size := by have := hb1.size; rw [hz0] at this; exact this
  obtain ⟨W2, hW2⟩ : ∃ W2, w1.alloc (.cells #[.int .u32 a, .int .u32 b] 168) = W2 := ⟨_, rfl⟩
  have HB2 : Hid (Below w.heap.size w W2) := by
    show Below _ _ _
    rw [← hW2]
    exact (((((Below.refl _ w).alloc (Nat.le_refl _) _).alloc (by simp) _).trans (hb1.mono (by omega))).alloc (by omega) _)
  have HG : Hid (W2.heap[w.heap.size]? = some (.cells (S1 ++ S2).toArray 256 (0, 0))) := by show _ = _; rw [← hW2, Below.heap_alloc _ _ _ (by omega)]; exact (hb1.block _ (by omega)).trans ((Below.heap_alloc _ _ _ (by simp)).trans (heap_alloc_new w _))
  have HQ1 : Hid (W2.heap[w.heap.size + 1]? = some (.cells #[.int .u32 0, .int .u32 0] 168 (0, 0))) := by show _ = _; rw [← hW2, Below.heap_alloc _ _ _ (by omega)]; exact (hb1.block _ (by omega)).trans (heap_alloc_new2 w _ _)
  have HP5 : Hid (W2.heap[w1.heap.size]? = some (.cells #[.int .u32 a, .int .u32 b] 168 (0, 0))) := by show _ = _; rw [← hW2]; exact heap_alloc_new w1 _
  have HOX : Hid (W2.ownsRow (w.heap.size + 1 + 1) 43 2 x1 P1.length (pairCells P1)) := by show World.ownsRow _ _ _ _ _ _ _; rw [← hW2]; exact hx1.alloc _
  have HOL : Hid (∀ g, x1.ownBlock = some g → g < w1.heap.size) := fun g hg => (hx1.lt g hg).2
  have HZ2 : Hid (W2.heap.size = w1.heap.size + 1) := by show _ = _; rw [← hW2]; simp
  rw [hW2]
  generalize w1.heap.size = p5 at *
  clear hW2 hx1 hb1 HX1 HB1 HU1 hz0 HR1
  go_loopw [6, 7, 22] (fun v ok i wr => ∃ k : Nat, k ≤ 1 ∧ i = .int .i64 k ∧ ok = .bool true ∧ wr.ownsRow (w.heap.size + 1 + 1) 43 2 v (if k = 0 then P1 else P1 ++ P2).length (pairCells (if k = 0 then P1 else P1 ++ P2)) ∧ (k = 0 → v = x1 ∧ wr = W2) ∧ wr.heap[p5]? = some (.cells #[.int .u32 a, .int .u32 b] 168 (0, 0)) ∧ Below (w.heap.size + 1 + 1) W2 wr) (fun _ _ i _ => 1 - (intOf i).toNat)
  case atStart => exact ⟨0, by omega, rfl, rfl, by simpa using HOX.out, fun _ => ⟨rfl, rfl⟩, HP5.out, Below.refl _ _⟩
  case round =>
    obtain ⟨k, hk, rfl, rfl, hown, hk0, hp5, hbw⟩ := hrel
    by_cases hlt : k = 0
    · subst hlt
      obtain ⟨rfl, rfl⟩ := hk0 rfl
      clear hown hp5 hbw hk0
      have tok1 : True := trivial
      have tok2 : True := trivial
      have hp5l : p5 < wr.heap.size := lt_of_block' HP5.out
      go_wp2_with (first
        | (refine wpList_load_mid rfl 98 (.tmp 24) rfl w.heap.size 64 (by rfl) S2 _ (HR2.out _ HG.out) Tryz.underlying98 rfl hi2 ?_)
        | (refine wpList_store_row rfl 98 (.tmp 9) (.tmp 25) rfl wr.heap.size S2.toArray (by rfl) (by rfl) 98 _ (heap_alloc_new _ _) (by simpa using hi2) ?ho (all_oneCell_toArray ho2) ?_
           case ho => simp [hs2]
           rw [World.setRow_alloc_new])
        | (refine wpList_load_mid rfl 98 (.tmp 9) rfl wr.heap.size 0 (by rfl) S2 _ (fun j u hu => by rw [Nat.zero_add]; exact cell_at (heap_alloc_new wr _) (by simpa using hu)) Tryz.underlying98 rfl hi2 ?_)
        | (go_at_call 219; go_must (
            refine (HU2.out _).mono ?_
            rintro e w2 ⟨x2, rfl, hx2, hb2⟩
            have HX2 := @id (Hid (World.ownsRow _ _ _ _ _ _ _)) hx2
            have HB3 : Hid (Below wr.heap.size wr w2) := ((Below.refl _ wr).alloc (Nat.le_refl _) _).trans (hb2.mono (by simp))
            have q5 := (HB3.out.block _ hp5l).trans HP5.out
            have c5 := cell_at (j := 0) q5 rfl
            have c6 := cell_at (j := 1) q5 rfl
            have hlt2 : wr.heap.size ≤ w2.heap.size := HB3.out.size
            have hp52 : p5 < w2.heap.size := by omega
            clear hb2 hx2 q5))
        | (at_builtin; go_must (
            refine wpList_append_pairs rfl _ _ rfl (w.heap.size + 1 + 1) 0 u6 x2 P1 P2 rfl ?hown rfl ?hsrc (by omega) (by omega) ?hbase ?_
            case hown => exact (owns_below HOX.out HB3.out (fun g hg => by have := HOL.out g hg; omega)).alloc _
            case hsrc => exact owns_mono (HX2.out.alloc _) (Nat.zero_le _)
            case hbase => simp; omega
            intro v7 w7 hown7 hb7 hk7
            have HB7 : Hid (Below (w.heap.size + 1 + 1) wr w7) := ((HB3.out.mono (by omega)).alloc (by omega) _).trans hb7
            have HQ5 : Hid (w7.heap[p5]? = some (.cells #[.int .u32 a, .int .u32 b] 168 (0, 0))) := (hk7 p5 (by simp; omega) (fun e => by have := HOL.out p5 e; omega)).trans ((Below.heap_alloc _ _ _ (by omega)).trans ((HB3.out.block _ hp5l).trans HP5.out))
            clear hb7 hk7)))
      refine ⟨⟨1, by omega, rfl, rfl, by simpa using hown7, fun h => absurd h (by omega), HQ5.out, HB7.out⟩, by simp [intOf]⟩
    · obtain rfl : k = 1 := by omega
      have q1 := (hbw.block (w.heap.size + 1) (by omega)).trans HQ1.out
      have c1 := cell_at (j := 0) q1 rfl
      have c2 := cell_at (j := 1) q1 rfl
      have f1 := frozen_at 0 q1
      have f2 := frozen_at 1 q1
      have c5 := cell_at (j := 0) hp5 rfl
      have c6 := cell_at (j := 1) hp5 rfl
      have HQ := @id (Hid _) q1
      have HOW : Hid (wr.ownsRow (w.heap.size + 1 + 1) 43 2 u6 (P1 ++ P2).length (pairCells (P1 ++ P2))) := by show World.ownsRow _ _ _ _ _ _ _; simpa using hown
      have HBF : Hid (Below w.heap.size w wr) := HB2.out.trans (hbw.mono (by omega))
      clear q1 hown hbw hk0 hp5
      go_wp2
      have k3 := setCell_at _ (w.heap.size + 1) 1 (.int .u32 b) _ 168 (setCell_at wr (w.heap.size + 1) 0 (.int .u32 a) _ 168 HQ.out)
      have m0 := cell_at (j := 0) k3 rfl
      have m1 := cell_at (j := 1) k3 rfl
      refine bodyPost_ret (v := .tuple #[.agg #[.int .u32 a, .int .u32 b], u6, .bool true]) ?_ rfl ⟨u6, rfl, ?_, ?_⟩
      · simp [results, Tryz.results188, go_sem, m0, m1]
      · refine owns_mono (owns_off (w := wr) HOW.out (fun g hg => ?_)) (show w.heap.size ≤ w.heap.size + 1 + 1 by omega)
        have := (HOW.out.lt g hg).1
        exact (Below.heap_setCell _ _ _ _ (show g ≠ w.heap.size + 1 by omega)).trans (Below.heap_setCell _ _ _ _ (show g ≠ w.heap.size + 1 by omega))
      · exact (HBF.out.setCell (p := ⟨w.heap.size + 1, 0, none⟩) (by simp) _).setCell (p := ⟨w.heap.size + 1, 1, none⟩) (by simp) _
end Go.Proofs.YtihbngfbcnojcaaGreat

namespace Go.Proofs.YtihbngfbcnojcaaGreat
open Go.RowKit

/-- A master record's body: the log's start, the mode. -/
def masterBody (log mode : Int) : List Value := be log 4 ++ be mode 1
theorem masterBody_length (log mode : Int) : (masterBody log mode).length = 5 := by simp [masterBody, be_length]
theorem masterBody_one (log mode : Int) : ∀ u ∈ masterBody log mode, u.oneCell' = true := by
  intro u hu
  rcases List.mem_append.1 hu with h | h
  · exact be_one _ _ u h
  · exact be_one _ _ u h

/-- The cells of a whole row are stored: laid as a rule for a region that draws its order. -/
theorem run_row (w : World) (g : Nat) (old : Array Value) (t : TypeId) (S : List Value) (hg : w.heap[g]? = some (.cells old t (0, 0))) (hl : old.size = S.length) (h1 : ∀ u ∈ S, u.oneCell' = true) :
    Sem.run Tryz.prog (storeCells ⟨g, 0, none⟩ S) w = .ok () (w.setRow g S.toArray) := by
  have := run_storeCells_from (P := Tryz.prog) g t S 0 old w hg (by omega) h1
  simpa using this

set_option maxRecDepth 100000 in
set_option maxHeartbeats 4000000 in
theorem packMaster_any (a b log mode : Int) (w : World) (ha : 0 ≤ a) (ha' : a < 4294967296) (hb : 0 ≤ b) (hb' : b < 4294967296) (hl : 0 ≤ log) (hl' : log < 4294967296) (hm : 0 ≤ mode) (hm' : mode < 256) :
    Calls Tryz.prog 123 #[.agg #[.int .u32 a, .int .u32 b], .agg #[.int .u32 log, .int .i64 mode]] w fun r w' => r = .returned (.agg (sealed a b (masterBody log mode)).toArray) ∧ Below w.heap.size w w' := by
  have HBL : Hid ((masterBody log mode).length = 5) := masterBody_length log mode
  have hwl : IntKind.i64.wrap log = log := by rw [IntKind.wrap_i64]; omega
  have tok1 : True := trivial
  have hst := seal_start (w := w) (o1 := .cells #[.int .u32 a, .int .u32 b] 168) (o2 := .cells #[.int .u32 log, .int .i64 mode] 133) (o3 := .cells (List.replicate 64 (Value.int .u8 0)).toArray 98)
  have HST := @id (Hid _) hst
  clear hst
  go_enter Tryz.func123, Tryz.ntmps123
  go_wp2_with fail
  change Calls _ _ _ (((w.alloc (.cells #[.int .u32 a, .int .u32 b] 168)).alloc (.cells #[.int .u32 log, .int .i64 mode] 133)).alloc (.cells (List.replicate 64 (Value.int .u8 0)).toArray 98)) _
  revert HST
  generalize ((w.alloc (.cells #[.int .u32 a, .int .u32 b] 168)).alloc (.cells #[.int .u32 log, .int .i64 mode] 133)).alloc (.cells (List.replicate 64 (Value.int .u8 0)).toArray 98) = w0
  intro HST
  obtain ⟨hB0, hs0, hh0, hh1, hh2⟩ := HST.out
  have HB0 : Hid (Below w.heap.size w w0) := hB0
  have HH0 : Hid (w0.heap[w.heap.size]? = some (.cells #[.int .u32 a, .int .u32 b] 168)) := hh0
  have HH1 : Hid (w0.heap[w.heap.size + 1]? = some (.cells #[.int .u32 log, .int .i64 mode] 133)) := hh1
  have HH2 : Hid (w0.heap[w.heap.size + 1 + 1]? = some (.cells (List.replicate 64 (Value.int .u8 0)).toArray 98)) := hh2
  have HS0 : Hid (w0.heap.size = w.heap.size + 3) := hs0
  clear hB0 hh0 hh1 hh2 hs0 HST
  refine (appendNumber_any (w.heap.size + 3) _ 0 [] log 4 _ (World.ownsRow_nil _ _ _ _) (by have := HS0.out; omega) (by omega) hl (by omega) (by omega)).mono ?_
  rintro r w1 ⟨v1, rfl, hown, hg⟩
  have HO1 : Hid (w1.ownsRow (w.heap.size + 3) 5 1 v1 4 (be log 4)) := hown
  have HB1 : Hid (Below (w.heap.size + 3) w0 w1) := hg.below (World.ownsRow_nil _ (w.heap.size + 3) 5 1) (Nat.le_refl _) (by have := HS0.out; omega)
  have HS1 : Hid (w.heap.size + 3 ≤ w1.heap.size) := by have := HB1.out.size; have := HS0.out; show _ ≤ _; omega
  have q1_0 : w1.cell? ⟨w.heap.size, 0, none⟩ = some (.int .u32 a) := (HB1.out.cell (by simp)).trans (cell_at HH0.out rfl)
  have q1_1 : w1.cell? ⟨w.heap.size, 1, none⟩ = some (.int .u32 b) := (HB1.out.cell (by simp)).trans (cell_at HH0.out rfl)
  have q1_2 : w1.cell? ⟨w.heap.size + 1, 1, none⟩ = some (.int .i64 mode) := (HB1.out.cell (by simp)).trans (cell_at HH1.out rfl)
  clear tok1 hown hg
  go_wp2
  have HM1 : Hid (∀ u ∈ be log 4 ++ be mode 1, u.oneCell' = true) := masterBody_one log mode
  go_region_law (first
    | (go_simp; go_wp2_with (first
        | (go_at_call 169; go_must (
            refine (appendNumber_any (w.heap.size + 3) _ 4 (be log 4) mode 1 w1.drew HO1.out (by have := HS1.out; simp; omega) (by omega) hm (by omega) (by omega)).mono ?_
            rintro r w2 ⟨v2, rfl, hown, hg⟩
            have hB2 : Below (w.heap.size + 3) w0 w2 := HB1.out.trans ((Below.refl _ _).drew.trans (hg.below HO1.out (Nat.le_refl _) (by have := HS1.out; simp; omega)))
            have HB2 : Hid (Below (w.heap.size + 3) w0 w2) := hB2
            have HS2 : Hid (w.heap.size + 3 ≤ w2.heap.size) := by have := HB2.out.size; have := HS0.out; show _ ≤ _; omega
            have q2_0 : w2.cell? ⟨w.heap.size, 0, none⟩ = some (.int .u32 a) := (HB2.out.cell (by simp)).trans (cell_at HH0.out rfl)
            have q2_1 : w2.cell? ⟨w.heap.size, 1, none⟩ = some (.int .u32 b) := (HB2.out.cell (by simp)).trans (cell_at HH0.out rfl)
            obtain ⟨g7, cap7, cur7, rfl, hg7b, hg7h, hc7, hcur⟩ := owns_row hown (by omega)
            have HG7 : Hid (w2.heap[g7]? = some (.cells cur7 5)) := hg7h
            have HC7 : Hid (∀ (j : Nat) u, (be log 4 ++ be mode 1)[j]? = some u → cur7[j]? = some u) := hcur
            clear hg7b hg7h hc7 hcur hown hg hB2))
        | (go_at_call 167; go_must (
            refine (seal_any' a b _ ha ha' hb hb' g7 5 cap7 (be log 4 ++ be mode 1) (lt_of_block' HG7.out) HBL.out (by omega) (fun j u hu => cell_at HG7.out (HC7.out j u hu)) HM1.out).mono ?_
            rintro r w8 ⟨S, rfl, HSS, HSL, HS1', hb8⟩
            have K1 : Hid (w8.heap[w.heap.size + 1 + 1]? = some (.cells (List.replicate 64 (Value.int .u8 0)).toArray 98)) := ((HB2.out.trans (hb8.mono HS2.out)).block _ (by omega)).trans HH2.out
            have HB8 : Hid (Below (w.heap.size + 3) w0 w8) := HB2.out.trans (hb8.mono HS2.out)
            have hSL := HSL.out
            have hrun := run_row w8 (w.heap.size + 1 + 1) _ 98 S K1.out (by rw [List.size_toArray, HSL.out]; rfl) HS1'.out
            clear hb8 HB2 HS2 HG7 HC7 q2_0 q2_1)))))
  all_goals
    go_wp2
    refine bodyPost_ret (v := .agg S.toArray) ?_ rfl ⟨by rw [HSS.out]; rfl, ?_⟩
    · exact results_cell_row Tryz.results123 _ _ (w.heap.size + 1 + 1) 98 S.toArray (0, 0) _ rfl (setRow_heap _ _ _ _ _ _ K1.out) Tryz.underlying98 rfl (by rw [List.size_toArray, HSL.out]; kernel_rfl)
    · exact below_setRow (HB0.out.trans (HB8.out.mono (by omega))) (by omega) _
end Go.Proofs.YtihbngfbcnojcaaGreat
