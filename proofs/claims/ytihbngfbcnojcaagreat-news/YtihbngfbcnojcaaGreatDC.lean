import Derived.Test.YtihbngfbcnojcaaGreatDA
import Derived.Deep.WholeRow
namespace Go.Proofs.YtihbngfbcnojcaaGreat
open Go.RowKit

def fillC (C : Array Value) : Nat → List Value → Array Value
  | _, [] => C
  | o, v :: r => fillC (C.setIfInBounds o v) (o + 1) r
theorem fillC_size : ∀ (S : List Value) (C : Array Value) (o : Nat), (fillC C o S).size = C.size
  | [], _, _ => rfl
  | v :: r, C, o => by rw [fillC, fillC_size r]; simp
theorem setCells_at : ∀ (S : List Value) (w : World) (b o : Nat) (C : Array Value) (t : TypeId), w.heap[b]? = some (.cells C t (0, 0)) → (w.setCells b o S).heap[b]? = some (.cells (fillC C o S) t (0, 0))
  | [], _, _, _, _, _, h => h
  | v :: r, w, b, o, C, t, h => setCells_at r _ b (o + 1) _ t (setCell_at w b o v C t h)
theorem setCells_other : ∀ (S : List Value) (w : World) (b o k : Nat), k ≠ b → (w.setCells b o S).heap[k]? = w.heap[k]?
  | [], _, _, _, _, _ => rfl
  | _ :: r, _, b, o, k, h => (setCells_other r _ b (o + 1) k h).trans (Below.heap_setCell _ _ _ _ h)
theorem setCells_below : ∀ (S : List Value) (w0 w : World) (b o : Nat), Below 0 w0 w → Below 0 w0 (w.setCells b o S)
  | [], _, _, _, _, h => h
  | _ :: r, w0, w, b, o, h => setCells_below r w0 _ b (o + 1) (h.setCell (p := ⟨b, o, none⟩) (by simp) _)

/-- The disk behind some writes that were made lasting. -/
def applyW (D : Array Value) (ws : List (Nat × List Value)) : Array Value := ws.foldl (fun D p => fillC D (p.1 * 64) p.2) D
theorem applyW_snoc (D : Array Value) (ws : List (Nat × List Value)) (p : Nat × List Value) : applyW D (ws ++ [p]) = fillC (applyW D ws) (p.1 * 64) p.2 := by simp [applyW, List.foldl_append]
theorem applyW_size (ws : List (Nat × List Value)) : ∀ D : Array Value, (applyW D ws).size = D.size := by
  induction ws with
  | nil => intro D; rfl
  | cons p r ih => intro D; show (applyW (fillC D _ _) r).size = _; rw [ih, fillC_size]
def rowOf (ws : List (Nat × List Value)) : List Value := ws.flatMap fun p => Value.int .i64 (p.1 : Int) :: p.2
theorem rowOf_at : ∀ (ws : List (Nat × List Value)), (∀ p ∈ ws, p.2.length = 64) → ∀ (k : Nat) (p : Nat × List Value), ws[k]? = some p → ∀ j u, (Value.int .i64 (p.1 : Int) :: p.2)[j]? = some u → (rowOf ws)[k * 65 + j]? = some u
  | [], _, k, p, h => by simp at h
  | q :: r, hl, 0, p, h => by
    intro j u hu
    simp at h
    subst h
    have hj := (List.getElem?_eq_some_iff.1 hu).1
    rw [rowOf, List.flatMap_cons, List.getElem?_append_left (by simpa using hj)]
    simpa using hu
  | q :: r, hl, k + 1, p, h => by
    intro j u hu
    have h64 := hl q (by simp)
    have := rowOf_at r (fun p hp => hl p (by simp [hp])) k p (by simpa using h) j u hu
    rw [rowOf, List.flatMap_cons, List.getElem?_append_right (by simp [h64]; omega)]
    simp only [List.length_cons, h64]
    rw [show (k + 1) * 65 + j - (64 + 1) = k * 65 + j by omega]
    exact this

/-- Writes that are right: a sector of the disk, 64 bytes. -/
def WsOk (ws : List (Nat × List Value)) : Prop := ∀ p ∈ ws, p.1 < 434 ∧ p.2.length = 64 ∧ ∀ u ∈ p.2, u.oneCell' = true

theorem sz188 : (Tryz.prog.info? 143).map (·.size) = some 65 := by kernel_rfl
theorem sz99 : (Tryz.prog.info? 98).map (·.size) = some 64 := by kernel_rfl

/-- A store of a long array as one step of a region that draws its order. -/
theorem step_store_mid {P : Program} {ops : Array Oper} {o : Oper} {a : Act} {w : World} {K : Act → World → Prop} {Q : Exit → Act → World → Prop} {E : Prop} (hgd : o.guard = none) (ty : TypeId) (x y : Operand) (ho : o.op = .store ty x y)
    (b off : Nat) (cells : Array Value) (hx : a.eval x = .pointer (some ⟨b, off, none⟩)) (hy : a.eval y = .agg cells)
    (ht : w.there b off cells.size) (hi : (P.info? ty).map (·.size) = some cells.size) (h1 : cells.all (·.oneCell') = true) (h : K (a.put o.dst undef) (w.setCells b off cells.toList)) :
    if Region.wanted o (yielded ops a.tmps) = true then Oper.wp P o a w K Q else E := by
  have hw : Region.wanted o (yielded ops a.tmps) = true := by simp [Region.wanted, hgd]
  rw [if_pos hw]
  exact wp_store_mid ty x y ho b off cells hx hy ht hi h1 h

theorem there_at {w : World} {b : Nat} {C : Array Value} {t : TypeId} (h : w.heap[b]? = some (.cells C t (0, 0))) (o n : Nat) (hn : o + n ≤ C.size) : w.there b o n := fun j hj =>
  ⟨by rw [cell_at h (Array.getElem?_eq_getElem (show o + j < C.size by omega))]; rfl, frozen_at _ h⟩

theorem sync_round {ws : List (Nat × List Value)} {D : Array Value} {w wr w0 : World} {db k a : Nat} {S : List Value} (hlt : k < ws.length) (hX : applyW D (ws.take (k + 1)) = fillC (applyW D (ws.take k)) (a * 64) S)
    (hB0 : Below wr.heap.size wr w0) (hd0 : w0.heap[db]? = some (.cells (applyW D (ws.take k)) 103 (0, 0))) (hO : ∀ j, j < w.heap.size → j ≠ db → wr.heap[j]? = w.heap[j]?) (hB : Below 0 w wr) :
    (∃ k1 : Nat, k1 ≤ ws.length ∧ Value.int .i64 ((k : Int) + 1) = Value.int .i64 (k1 : Int) ∧ (w0.drew.setCells db (a * 64) S).heap[db]? = some (.cells (applyW D (ws.take k1)) 103 (0, 0)) ∧
      (∀ j, j < w.heap.size → j ≠ db → (w0.drew.setCells db (a * 64) S).heap[j]? = w.heap[j]?) ∧ Below 0 w (w0.drew.setCells db (a * 64) S)) ∧
    ws.length - (intOf (.int .i64 ((k : Int) + 1))).toNat < ws.length - (intOf (.int .i64 (k : Int))).toNat := by
  have hs := hB.size
  refine ⟨⟨k + 1, by omega, by simp, ?_, fun j h1 h2 => ?_, ?_⟩, ?_⟩
  · rw [hX]; exact setCells_at S w0.drew db (a * 64) _ _ hd0
  · rw [setCells_other S w0.drew db (a * 64) j h2]
    exact (hB0.block j (by omega)).trans (hO j h1 h2)
  · refine setCells_below S w w0.drew db (a * 64) ?_
    exact ⟨hB0.os.trans hB.os, hB0.tape.trans hB.tape, hB0.output.trans hB.output, by have := hB0.size; simp; omega, fun k hk => by omega⟩
  · simp [intOf]; omega

set_option maxRecDepth 100000 in
set_option maxHeartbeats 1000000 in
theorem diskSync_any (db base g cap : Nat) (ws : List (Nat × List Value)) (D cur : Array Value) (w : World) (hdb : db < base) (hb : base ≤ g) (hok : WsOk ws) (hn : ws.length ≤ 100000)
    (hD : w.heap[db]? = some (.cells D 103 (0, 0))) (hDz : D.size = 27779) (hDv : D[27776]? = some (.slice (some ⟨g, 0, none⟩) ws.length cap)) (hg : w.heap[g]? = some (.cells cur 143 (0, 0))) (hcur : ∀ (j : Nat) u, (rowOf ws)[j]? = some u → cur[j]? = some u) :
    Calls Tryz.prog 117 #[.pointer (some ⟨db, 0, none⟩)] w fun e w' => e = .returned (.tuple #[]) ∧ w'.heap[db]? = some (.cells ((applyW D ws).setIfInBounds 27776 (.slice none 0 0)) 103 (0, 0)) ∧ (∀ k, k < w.heap.size → k ≠ db → w'.heap[k]? = w.heap[k]?) ∧ Below 0 w w' := by
  have hc : w.cell? ⟨db, 27776, none⟩ = some (.slice (some ⟨g, 0, none⟩) ws.length cap) := cell_at hD hDv
  have hgw : g < w.heap.size := lt_of_block' hg
  have hdw : db < w.heap.size := lt_of_block' hD
  go_enter Tryz.func117, Tryz.ntmps117
  go_wp2
  go_loopw [9] (fun i wr => ∃ k : Nat, k ≤ ws.length ∧ i = .int .i64 k ∧ wr.heap[db]? = some (.cells (applyW D (ws.take k)) 103 (0, 0)) ∧ (∀ j, j < w.heap.size → j ≠ db → wr.heap[j]? = w.heap[j]?) ∧ Below 0 w wr) (fun i _ => ws.length - (intOf i).toNat)
  case atStart => exact ⟨0, by omega, rfl, by simpa [applyW] using hD, fun _ _ _ => rfl, Below.refl _ _⟩
  case round =>
    obtain ⟨k, hk, rfl, hd, ho, hb0⟩ := hrel
    have HD : Hid (wr.heap[db]? = some (.cells (applyW D (ws.take k)) 103 (0, 0))) := hd
    have HO : Hid (∀ j, j < w.heap.size → j ≠ db → wr.heap[j]? = w.heap[j]?) := ho
    have HB : Hid (Below 0 w wr) := hb0
    by_cases hlt : k < ws.length
    · have hlt' : (k : Int) < (ws.length : Int) := by omega
      obtain ⟨h434, h64, hone⟩ := hok ws[k] (List.getElem_mem hlt)
      have hr : wr.rangeAt g (k * 65) (Value.int .i64 ((ws[k]).1 : Int) :: (ws[k]).2) := fun j u hu => by
        have hgr : wr.heap[g]? = some (.cells cur 143 (0, 0)) := (ho g hgw (by omega)).trans hg
        exact cell_at hgr (hcur _ _ (rowOf_at ws (fun p hp => (hok p hp).2.1) k _ (List.getElem?_eq_getElem hlt) j u hu))
      have hnext : ws.take (k + 1) = ws.take k ++ [ws[k]] := by simp
      have HX : Hid (wr.heap[db]? = some (.cells (applyW D (ws.take k)) 103 (0, 0)) ∧ (applyW D (ws.take k)).size = 27779 ∧ applyW D (ws.take (k + 1)) = fillC (applyW D (ws.take k)) (ws[k].1 * 64) ws[k].2) := ⟨hd, by rw [applyW_size, hDz], by rw [hnext, applyW_snoc]⟩
      have hdr : db < wr.heap.size := lt_of_block' hd
      generalize ws[k] = p at h434 h64 hone hr HX
      obtain ⟨a, S⟩ := p
      simp only at h434 h64 hone hr HX
      have hC : (Value.int .i64 (a : Int) :: S).length = 65 := by simp [h64]
      have hi149 : (Tryz.prog.info? 143).map (·.size) = some (Value.int .i64 (a : Int) :: S).length := by rw [hC]; exact sz188
      have hi107 : (Tryz.prog.info? 98).map (·.size) = some S.length := by rw [h64]; exact sz99
      have hC1 : ∀ u ∈ Value.int .i64 (a : Int) :: S, u.oneCell' = true := fun u hu => (List.mem_cons.1 hu).elim (fun h => by rw [h]; rfl) (fun h => hone u h)
      have HC1 : Hid (∀ u ∈ Value.int .i64 (a : Int) :: S, u.oneCell' = true) := hC1
      have HS1 : Hid (∀ u ∈ S, u.oneCell' = true) := hone
      clear hd ho hb0 hnext hC1 hone
      go_wp2_with (first
        | (refine wpList_load_mid rfl 143 (.tmp 11) rfl g (k * 65) (by rfl) _ _ hr Tryz.underlying143 rfl hi149 ?_)
        | (refine wpList_store_row rfl 143 (.tmp 3) (.tmp 12) rfl wr.heap.size (Value.int .i64 (a : Int) :: S).toArray (by rfl) (by rfl) 143 _ (heap_alloc_new _ _) (by simpa using hi149) ?ho (all_oneCell_toArray HC1.out) ?_
           case ho => rw [zero188']; simp [h64]
           rw [World.setRow_alloc_new]))
      have hB0 : Below wr.heap.size wr (wr.alloc (.cells (Value.int .i64 (a : Int) :: S).toArray 143)) := (Below.refl _ _).alloc (Nat.le_refl _) _
      have hn0 : (wr.alloc (.cells (Value.int .i64 (a : Int) :: S).toArray 143)).heap[wr.heap.size]? = some (.cells (Value.int .i64 (a : Int) :: S).toArray 143 (0, 0)) := heap_alloc_new wr _
      have hd0 : (wr.alloc (.cells (Value.int .i64 (a : Int) :: S).toArray 143)).heap[db]? = some (.cells (applyW D (ws.take k)) 103 (0, 0)) := (hB0.block db hdr).trans HD.out
      revert hB0 hn0 hd0
      generalize wr.alloc (.cells (Value.int .i64 (a : Int) :: S).toArray 143) = w0
      intro hB0 hn0 hd0
      have c0 : w0.cell? ⟨wr.heap.size, 0, none⟩ = some (.int .i64 (a : Int)) := cell_at hn0 (by rfl)
      have hr1 : w0.rangeAt wr.heap.size 1 S := fun j u hu => cell_at hn0 (by rw [Nat.add_comm]; simpa using hu)
      have HT : Hid (w0.there db (a * 64) S.toArray.size) := there_at hd0 _ _ (by have := HX.out.2.1; simp [h64]; omega)
      have HB0 : Hid (Below wr.heap.size wr w0) := hB0
      have HD0 : Hid (w0.heap[db]? = some (.cells (applyW D (ws.take k)) 103 (0, 0))) := hd0
      have ha0 : (a : Int) < 434 := by omega
      clear hB0 hn0 hd0 hr hc hg hcur hok hD hDz hDv
      refine wp_region_any (by kernel_rfl) ?_
      change wpAny _ _ _ _ _ _ _ w0.drew
      refine wpAny_take (i := 0) (v := (Value.pointer (some ⟨db, 0, none⟩))) rfl (by kernel_rfl) (by kernel_rfl) (by kernel_rfl) (fun _ _ _ h => h) (Or.inl ⟨by rfl, ?_⟩) ?_
      · intro wz; go_simp
      refine wpAny_take (i := 1) (v := (Value.pointer (some ⟨wr.heap.size, 0, none⟩))) rfl (by kernel_rfl) (by kernel_rfl) (by kernel_rfl) (fun _ _ _ h => h) (Or.inl ⟨by rfl, ?_⟩) ?_
      · intro wz; go_simp
      refine wpAny_take (i := 3) (v := (Value.pointer (some ⟨wr.heap.size, 1, none⟩))) rfl (by kernel_rfl) (by kernel_rfl) (by kernel_rfl) (fun _ _ _ h => h) (Or.inl ⟨by rfl, ?_⟩) ?_
      · intro wz; go_simp
      refine wpAny_take (i := 5) (v := (Value.pointer (some ⟨db, 0, none⟩))) rfl (by kernel_rfl) (by kernel_rfl) (by kernel_rfl) (fun _ _ _ h => h) (Or.inl ⟨by rfl, ?_⟩) ?_
      · intro wz; go_simp
      refine wpAny_take (i := 6) (v := (Value.pointer (some ⟨db, 0, none⟩))) rfl (by kernel_rfl) (by kernel_rfl) (by kernel_rfl) (fun _ _ _ h => h) (Or.inl ⟨by rfl, ?_⟩) ?_
      · intro wz; go_simp
      refine wpAny_ready (rs := [2, 4]) (by kernel_rfl) (by simp) ?_
      refine AllReady.cons rfl (fun K hK => ?_) (AllReady.cons rfl (fun K hK => ?_) AllReady.nil)
      · go_simp
        refine hK _ _ ?_
        clear hK K
        refine wpAny_ready (rs := [4]) (by kernel_rfl) (by simp) ?_
        refine AllReady.cons rfl (fun K hK => ?_) AllReady.nil
        refine step_load_mid rfl 98 (.tmp 16) rfl wr.heap.size 1 (by rfl) S _ hr1 Tryz.underlying98 rfl hi107 ?_
        refine hK _ _ ?_
        clear hK K
        refine wpAny_ready (rs := [7]) (by kernel_rfl) (by simp) ?_
        refine AllReady.cons rfl (fun K hK => ?_) AllReady.nil
        go_simp
        refine hK _ _ ?_
        clear hK K
        refine wpAny_ready (rs := [8]) (by kernel_rfl) (by simp) ?_
        refine AllReady.cons rfl (fun K hK => ?_) AllReady.nil
        refine step_store_mid rfl 98 (.tmp 20) (.tmp 17) rfl db (a * 64) S.toArray (by rfl) (by rfl) HT.out (by simpa using hi107) (all_oneCell_toArray HS1.out) ?_
        refine hK _ _ ?_
        clear hK K
        refine wpAny_done (by kernel_rfl) ?_ _
        go_wp2
        exact sync_round hlt HX.out.2.2 HB0.out HD0.out HO.out HB.out
      · refine step_load_mid rfl 98 (.tmp 16) rfl wr.heap.size 1 (by rfl) S _ hr1 Tryz.underlying98 rfl hi107 ?_
        refine hK _ _ ?_
        clear hK K
        refine wpAny_ready (rs := [2]) (by kernel_rfl) (by simp) ?_
        refine AllReady.cons rfl (fun K hK => ?_) AllReady.nil
        go_simp
        refine hK _ _ ?_
        clear hK K
        refine wpAny_ready (rs := [7]) (by kernel_rfl) (by simp) ?_
        refine AllReady.cons rfl (fun K hK => ?_) AllReady.nil
        go_simp
        refine hK _ _ ?_
        clear hK K
        refine wpAny_ready (rs := [8]) (by kernel_rfl) (by simp) ?_
        refine AllReady.cons rfl (fun K hK => ?_) AllReady.nil
        refine step_store_mid rfl 98 (.tmp 20) (.tmp 17) rfl db (a * 64) S.toArray (by rfl) (by rfl) HT.out (by simpa using hi107) (all_oneCell_toArray HS1.out) ?_
        refine hK _ _ ?_
        clear hK K
        refine wpAny_done (by kernel_rfl) ?_ _
        go_wp2
        exact sync_round hlt HX.out.2.2 HB0.out HD0.out HO.out HB.out
    · have hlt' : ¬ (k : Int) < (ws.length : Int) := by omega
      have f1 := frozen_at 27776 hd
      have c1 : ∃ u, wr.cell? ⟨db, 27776, none⟩ = some u := by
        have hs : 27776 < (applyW D (ws.take k)).size := by rw [applyW_size]; omega
        exact ⟨_, cell_at hd (Array.getElem?_eq_getElem hs)⟩
      obtain ⟨u1, c1⟩ := c1
      have hkk : k = ws.length := by omega
      clear hd ho hb0
      go_wp2
      go_end0
      subst hkk
      have e1 : applyW D (ws.take ws.length) = applyW D ws := by rw [List.take_length]
      rw [e1] at HD
      exact ⟨rfl, setCell_at wr db 27776 _ _ _ HD.out, fun k h1 h2 => (Below.heap_setCell _ _ _ _ h2).trans (HO.out k h1 h2), HB.out.setCell (p := ⟨db, 27776, none⟩) (by simp) _⟩
end Go.Proofs.YtihbngfbcnojcaaGreat
