import Derived.Test.YtihbngfbcnojcaaGreatNewsK
import Derived.Deep.DeepMust
namespace Go.Proofs.YtihbngfbcnojcaaGreat
open Go.RowKit

set_option maxHeartbeats 400000 in
theorem new_no (m : Int) (h0 : (m == 0) = false) (h1 : (m == 1) = false) (w : World) :
    Calls Tryz.prog 40 #[.int .i64 m] w fun e w' => e = .returned (.tuple #[.pointer none, .int .i64 1]) ∧ Below w.heap.size w w' := by
  go_enter Tryz.func40, Tryz.ntmps40
  go_wp2_with (first | (go_at_call 48; refine (known_any _ _).mono ?_; rintro e w' ⟨rfl, rfl⟩))
  go_ret2
  exact ⟨rfl, Below.refl _ _⟩

/-- New's frame: a disk is laid at w's end; what was there stands. -/
theorem newStore_frame {w w' : World} {o o' : Obj} (ho : ∀ k, k < (w.alloc o).heap.size → k ≠ w.heap.size → w'.heap[k]? = (w.alloc o).heap[k]?) (hb : Below 0 (w.alloc o) w') :
    Below w.heap.size w (w'.alloc o') ∧ w.heap.size < w'.heap.size := by
  have hs := hb.size
  simp at hs
  have h1 : Below w.heap.size w w' := ⟨hb.os, hb.tape, hb.output, by omega, fun k hk => (ho k (by simp; omega) (by omega)).trans (Below.heap_alloc _ _ _ hk)⟩
  exact ⟨h1.alloc (by omega) _, by omega⟩

set_option maxHeartbeats 400000 in
theorem new_nosteal (w : World) :
    Calls Tryz.prog 40 #[.int .i64 1] w fun e w' => ∃ a, e = .returned (.tuple #[.pointer (some ⟨a, 0, none⟩), .int .i64 0]) ∧ Below w.heap.size w w' ∧ a < w'.heap.size := by
  go_enter Tryz.func40, Tryz.ntmps40
  go_wp2_with (first
    | (go_at_call 48; refine (known_any _ _).mono ?_; rintro e w' ⟨rfl, rfl⟩)
    | (go_at_call 67; go_must (
        refine (wayNew_nosteal w.heap.size _ _ (heap_alloc_new w _) zeroDisk_size zeroDisk_slice zeroDisk_fuse).mono ?_
        rintro e w' ⟨c, rfl, ho, hb⟩)))
  go_ret2
  obtain ⟨h1, _⟩ := newStore_frame ho hb
  exact ⟨_, rfl, h1 , by simp⟩

/-- A store of mode Steal that was just made, in blocks from N on. -/
def StealAt (N : Nat) (w : World) (a : Nat) : Prop :=
  ∃ c x0 x1, N ≤ a ∧ w.heap[a]? = some (.cells #[x0, x1, .iface 234 (.pointer (some ⟨c, 0, none⟩))] 90 (0, 0)) ∧ KindAt N w c

theorem lt_of_some {w : World} {k : Nat} {o : Obj} (h : w.heap[k]? = some o) : k < w.heap.size := (Array.getElem?_eq_some_iff.1 h).1

theorem KindAt.kept {N : Nat} {w w' : World} {c : Nat} (h : KindAt N w c) (hk : ∀ k, N ≤ k → k < w.heap.size → w'.heap[k]? = w.heap[k]?) : KindAt N w' c := by
  obtain ⟨m, v0, v1, v2, v3, v4, hc, hm, h2, h3⟩ := h
  exact ⟨m, v0, v1, v2, v3, v4, hc, hm, by rw [hk _ hc (lt_of_some h2)]; exact h2, by rw [hk _ hm (lt_of_some h3)]; exact h3⟩
theorem StealAt.kept {N : Nat} {w w' : World} {a : Nat} (h : StealAt N w a) (hk : ∀ k, N ≤ k → k < w.heap.size → w'.heap[k]? = w.heap[k]?) : StealAt N w' a := by
  obtain ⟨c, x0, x1, ha, h1, h2⟩ := h
  exact ⟨c, x0, x1, ha, by rw [hk _ ha (lt_of_some h1)]; exact h1, h2.kept hk⟩

theorem StealAt.mono {N N' : Nat} {w : World} {a : Nat} (h : StealAt N w a) (hN : N' ≤ N) : StealAt N' w a := by
  obtain ⟨c, x0, x1, ha, h1, h2⟩ := h
  exact ⟨c, x0, x1, by omega, h1, h2.mono hN⟩

set_option maxHeartbeats 400000 in
theorem new_steal (w : World) :
    Calls Tryz.prog 40 #[.int .i64 0] w fun e w' => ∃ a, e = .returned (.tuple #[.pointer (some ⟨a, 0, none⟩), .int .i64 0]) ∧
      Below w.heap.size w w' ∧ a < w'.heap.size ∧ StealAt w.heap.size w' a := by
  go_enter Tryz.func40, Tryz.ntmps40
  go_wp2_with (first
    | (go_at_call 48; refine (known_any _ _).mono ?_; rintro e w' ⟨rfl, rfl⟩)
    | (go_at_call 67; go_must (
        refine (wayNew_steal w.heap.size _ _ (heap_alloc_new w _) zeroDisk_size zeroDisk_slice zeroDisk_fuse).mono ?_
        rintro e w' ⟨c, rfl, ho, hb, hk⟩)))
  go_ret2
  obtain ⟨h1, h2⟩ := newStore_frame ho hb
  refine ⟨_, rfl, h1, by simp, c, _, _, by omega, heap_alloc_new w' _, (hk.mono (by simp)).kept fun k _ hlt => Below.heap_alloc _ _ _ hlt⟩

set_option maxHeartbeats 400000 in
theorem refNew_yes (m : Int) (hm : m = 0 ∨ m = 1) (w : World) :
    Calls Tryz.prog 59 #[.int .i64 m] w fun e w' => e = .returned (.tuple #[.pointer (some ⟨w.heap.size, 0, none⟩), .int .i64 0]) ∧ ∃ o, w.alloc o = w' := by
  rcases hm with rfl | rfl
  all_goals
    go_enter Tryz.func59, Tryz.ntmps59
    go_wp2
    go_ret2
    exact ⟨rfl, _, rfl⟩

set_option maxHeartbeats 400000 in
theorem refNew_no (m : Int) (h0 : (m == 0) = false) (h1 : (m == 1) = false) (w : World) :
    Calls Tryz.prog 59 #[.int .i64 m] w fun e w' => e = .returned (.tuple #[.pointer none, .int .i64 1]) ∧ w = w' := by
  have h0' : (m != 0) = true := by simpa using h0
  have h1' : (m != 1) = true := by simpa using h1
  go_enter Tryz.func59, Tryz.ntmps59
  go_wp2
  go_ret2
  exact ⟨rfl, rfl⟩

theorem cell_of_heap {w : World} {b j : Nat} {cs : Array Value} {t : TypeId} {fz : Nat × Nat} {v : Value} (h : w.heap[b]? = some (.cells cs t fz)) (hv : cs[j]? = some v) : w.cell? ⟨b, j, none⟩ = some v := by
  simp [World.cell?, h, hv]
theorem frozen_of_heap {w : World} {b : Nat} (j : Nat) {cs : Array Value} {t : TypeId} (h : w.heap[b]? = some (.cells cs t (0, 0))) : w.frozen? ⟨b, j, none⟩ = false := by
  simp [World.frozen?, h]
theorem cell_new {w w' : World} {cs : Array Value} {t : TypeId} (hb : Below (w.alloc (.cells cs t)).heap.size (w.alloc (.cells cs t)) w') (j : Nat) (v : Value) (hv : cs[j]? = some v) :
    w'.cell? ⟨w.heap.size, j, none⟩ = some v := by
  rw [hb.cell (by simp)]
  exact cell_of_heap (heap_alloc_new w _) hv
theorem info69 : (Tryz.prog.info? 84).map (fun i => (i.zero, i.size, i.bytes)) = some (some (.pointer none), 1, 8) := by kernel_rfl

set_option maxHeartbeats 400000 in
theorem created_no (m : Int) (h0 : (m == 0) = false) (h1 : (m == 1) = false) (p : Option Addr) (o0 o1 o3 o4 o5 o6 o7 o8 : Value) (w : World) :
    Calls Tryz.prog 37 #[.pointer p, .agg #[o0, o1, .int .i64 m, o3, o4, o5, o6, o7, o8]] w fun e w' => e = .returned (.bool true) ∧ Below w.heap.size w w' := by
  go_enter Tryz.func37, Tryz.ntmps37
  go_wp2_with (first | (go_at_call 40; refine (new_no _ h0 h1 _).mono ?_; rintro e w' ⟨rfl, hb⟩; have hc := cell_new hb 2 (.int .i64 m) rfl) | (go_at_call 59; refine (refNew_no _ h0 h1 _).mono ?_; rintro e w' ⟨rfl, rfl⟩))
  go_ret
  exact ⟨rfl, ((Below.refl _ _).alloc (Nat.le_refl _) _).trans (hb.mono (by simp))⟩

/-- The script's world at block b: no list is held; n players, the row of pointers in new memory. -/
def WIs (b : Nat) (w : World) (v : Value) (n : Nat) (xs : List Value) : Prop :=
  w.heap[b]? = some (.cells #[.slice none 0 0, v] 77 (0, 0)) ∧ w.ownsRow (b + 1) 84 1 v n xs

theorem WIs.later {b : Nat} {w w' : World} {v : Value} {n : Nat} {xs : List Value} (h : WIs b w v n xs) (hb : Below w.heap.size w w') : WIs b w' v n xs := by
  refine ⟨by rw [hb.block _ (lt_of_some h.1)]; exact h.1, ?_⟩
  exact h.2.kept (row := none) ⟨hb.os, hb.tape, hb.output, hb.size, fun k hk _ => hb.block k hk⟩ (by cases v.ownBlock <;> simp)

theorem owns_slice {w : World} {base : Nat} {e : TypeId} {size : Nat} {v : Value} {n : Nat} {xs : List Value} (h : w.ownsRow base e size v (n + 1) xs) : ∃ g cap, v = .slice (some ⟨g, 0, none⟩) (n + 1) cap := by
  rcases h.2 with ⟨_, h⟩ | ⟨g, cap, cur, h, _⟩
  · cases h
  · exact ⟨g, cap, h⟩

theorem created_fin (R : Nat → World → Nat → Prop) (hR : ∀ N w w' a, R N w a → (∀ k, N ≤ k → k < w.heap.size → w'.heap[k]? = w.heap[k]?) → R N w' a)
    (b : Nat) (w w2 w4 : World) (v : Value) (n : Nat) (xs : List Value) (a q g cap : Nat) (hw : WIs b w v n xs) (hb2 : Below w.heap.size w w2) (hr : R w.heap.size w2 a)
    (hg4 : ((w2.alloc (.cells #[.pointer (some ⟨a, 0, none⟩), .pointer (some ⟨q, 0, none⟩), .bool false] 83)).alloc (.cells #[.pointer (some ⟨w2.heap.size, 0, none⟩)] 84)).grownBy w4 v.ownBlock)
    (hown : w4.ownsRow (b + 1) 84 1 (.slice (some ⟨g, 0, none⟩) (n + 1) cap) (n + 1) (xs ++ [.pointer (some ⟨w2.heap.size, 0, none⟩)]))
    (hb4 : w4.heap[b]? = some (.cells #[.slice none 0 0, v] 77 (0, 0))) :
    Below b w (w4.setCell ⟨b, 1, none⟩ (.slice (some ⟨g, 0, none⟩) (n + 1) cap)) ∧
      ∃ v' p q a, WIs b (w4.setCell ⟨b, 1, none⟩ (.slice (some ⟨g, 0, none⟩) (n + 1) cap)) v' (n + 1) (xs ++ [.pointer (some ⟨p, 0, none⟩)]) ∧
        (∀ k, k < w.heap.size → k ≠ b → v.ownBlock ≠ some k → (w4.setCell ⟨b, 1, none⟩ (.slice (some ⟨g, 0, none⟩) (n + 1) cap)).heap[k]? = w.heap[k]?) ∧
        w.heap.size ≤ p ∧ (w4.setCell ⟨b, 1, none⟩ (.slice (some ⟨g, 0, none⟩) (n + 1) cap)).heap[p]? = some (.cells #[.pointer (some ⟨a, 0, none⟩), .pointer (some ⟨q, 0, none⟩), .bool false] 83 (0, 0)) ∧
        R w.heap.size (w4.setCell ⟨b, 1, none⟩ (.slice (some ⟨g, 0, none⟩) (n + 1) cap)) a := by
  have hbw := lt_of_some hw.1
  have hlt := hw.2.lt
  have hs2 := hb2.size
  have old : ∀ k, k < w2.heap.size → k ≠ b → v.ownBlock ≠ some k → (w4.setCell ⟨b, 1, none⟩ (.slice (some ⟨g, 0, none⟩) (n + 1) cap)).heap[k]? = w2.heap[k]? := by
    intro k hk hkb hkv
    rw [Below.heap_setCell _ _ _ _ hkb, hg4.block k (by simp; omega) (fun e => hkv e.symm), Below.heap_alloc _ _ _ (by simp; omega), Below.heap_alloc _ _ _ hk]
  have old' : ∀ k, k < w.heap.size → k ≠ b → v.ownBlock ≠ some k → (w4.setCell ⟨b, 1, none⟩ (.slice (some ⟨g, 0, none⟩) (n + 1) cap)).heap[k]? = w.heap[k]? := by
    intro k hk hkb hkv
    rw [old k (by omega) hkb hkv, hb2.block k hk]
  refine ⟨⟨?_, ?_, ?_, ?_, fun k hk => old' k (by omega) (by omega) (fun e => by have := (hlt k e).1; omega)⟩, .slice (some ⟨g, 0, none⟩) (n + 1) cap, w2.heap.size, q, a, ⟨?_, ?_⟩, old', hs2, ?_, ?_⟩
  · show w4.os = w.os
    rw [hg4.os]; exact hb2.os
  · show w4.tape = w.tape
    rw [hg4.tape]; exact hb2.tape
  · show w4.output = w.output
    rw [hg4.output]; exact hb2.output
  · have := hg4.size
    simp [World.setCell] at this ⊢
    omega
  · rw [setCell_block _ _ _ _ _ _ hb4]; rfl
  · exact ownsRow_setCell_below hown (by simp) _
  · rw [Below.heap_setCell _ _ _ _ (by simp; omega), hg4.block w2.heap.size (by simp; omega) (fun e => by have := (hlt _ e.symm).2; omega), Below.heap_alloc _ _ _ (by simp)]
    exact heap_alloc_new _ _
  · refine hR _ _ _ _ hr fun k hN hk => old k hk (by omega) (fun e => by have := (hlt k e).2; omega)

set_option maxHeartbeats 1000000 in
theorem created_yes (R : Nat → World → Nat → Prop) (hR : ∀ N w w' a, R N w a → (∀ k, N ≤ k → k < w.heap.size → w'.heap[k]? = w.heap[k]?) → R N w' a)
    (hN : ∀ N N' w a, R N w a → N' ≤ N → R N' w a)
    (m : Int) (hm : m = 0 ∨ m = 1) (hn : ∀ w, Calls Tryz.prog 40 #[.int .i64 m] w fun e w' => ∃ a, e = .returned (.tuple #[.pointer (some ⟨a, 0, none⟩), .int .i64 0]) ∧ Below w.heap.size w w' ∧ a < w'.heap.size ∧ R w.heap.size w' a)
    (b : Nat) (o0 o1 o3 o4 o5 o6 o7 o8 : Value) (w : World) (v : Value) (n : Nat) (xs : List Value) (hw : WIs b w v n xs) (h6 : n < 6) :
    Calls Tryz.prog 37 #[.pointer (some ⟨b, 0, none⟩), .agg #[o0, o1, .int .i64 m, o3, o4, o5, o6, o7, o8]] w fun e w' => e = .returned (.bool true) ∧ Below b w w' ∧
      ∃ v' p q a, WIs b w' v' (n + 1) (xs ++ [.pointer (some ⟨p, 0, none⟩)]) ∧ (∀ k, k < w.heap.size → k ≠ b → v.ownBlock ≠ some k → w'.heap[k]? = w.heap[k]?) ∧
        w.heap.size ≤ p ∧ w'.heap[p]? = some (.cells #[.pointer (some ⟨a, 0, none⟩), .pointer (some ⟨q, 0, none⟩), .bool false] 83 (0, 0)) ∧ R w.heap.size w' a := by
  obtain ⟨i0, hi, hz0, hz1, hz2⟩ := info_parts info69
  have HN : Hid (∀ N N' w a, R N w a → N' ≤ N → R N' w a) := hN
  have HR : Hid (∀ N w w' a, R N w a → (∀ k, N ≤ k → k < w.heap.size → w'.heap[k]? = w.heap[k]?) → R N w' a) := hR
  clear hN hR
  go_enter Tryz.func37, Tryz.ntmps37
  go_wp2_with (first
    | (go_at_call 40; refine (hn _).mono ?_; rintro e w' ⟨a, rfl, hb, ha, hr⟩; have hc := cell_new hb 2 (.int .i64 m) rfl)
    | (go_at_call 59; go_must (
        refine (refNew_yes _ hm _).mono ?_
        rintro e w2 ⟨rfl, o, hw2⟩
        have hb2 : Below w.heap.size w w2 := by rw [← hw2]; exact (((Below.refl _ _).alloc (Nat.le_refl _) _).trans (hb.mono (by simp))).alloc (by have := hb.size; simp at this; omega) _
        have HL : Hid (w.heap.size < w'.heap.size ∧ w'.heap.size < w2.heap.size) := by rw [← hw2]; have := hb.size; simp at this; exact ⟨by omega, by simp⟩
        have hw3 := hw.later hb2
        have hr2 : Hid (R w.heap.size w2 a) := HN.out _ _ _ _ (HR.out _ _ w2 _ hr (fun k _ hk => by rw [← hw2]; exact Below.heap_alloc _ _ _ hk)) (by simp)
        have hcb : w2.cell? ⟨b, 1, none⟩ = some v := cell_of_heap (j := 1) hw3.1 rfl
        have HF : Hid (b < w2.heap.size) := lt_of_some hw3.1
        have hown := hw3.2
        clear hr hw2 hb hc))
    | (at_builtin; go_must (
        refine wpList_append_own _ rfl _ _ 75 rfl (b + 1) 84 i0 (.pointer none) 1 8 Tryz.underlying75 hi hz0 hz1 hz2 rfl (by decide) _ _ _ rfl ((hown.alloc _).alloc _) ⟨w2.heap.size + 1, 0, none⟩ 1 1 [.pointer (some ⟨w2.heap.size, 0, none⟩)] rfl rfl ?hnews (fun x hx => by simp at hx; subst hx; rfl) (by unfold maxLen; omega) (by omega) ?hbase ?_
        case hnews => simpa using cell_one_new (w2.alloc (.cells #[.pointer (some ⟨a, 0, none⟩), .pointer (some ⟨w'.heap.size, 0, none⟩), .bool false] 83)) (.pointer (some ⟨w2.heap.size, 0, none⟩)) 84
        case hbase => have := HF.out; simp; omega
        intro v' w4 hown4 hg4 hnil
        obtain ⟨g, cap, hv⟩ := owns_slice hown4
        subst hv
        have hbv : some b ≠ v.ownBlock := fun h => by have := (hown.lt b h.symm).1; omega
        have hb4 : w4.heap[b]? = some (.cells #[.slice none 0 0, v] 77 (0, 0)) := by
          rw [hg4.block b (by have := HF.out; simp; omega) hbv, Below.heap_alloc _ _ _ (by have := HF.out; simp; omega), Below.heap_alloc _ _ _ HF.out]; exact hw3.1
        have HB4 : Hid (w4.heap[b]? = some (.cells #[.slice none 0 0, v] 77 (0, 0))) := hb4
        have hc4 : w4.cell? ⟨b, 1, none⟩ = some v := cell_of_heap (j := 1) hb4 rfl
        have hf4 := frozen_of_heap 1 hb4
        clear hnil hb4)))
  go_ret
  exact ⟨rfl, created_fin R HR.out b w w2 w4 v n xs a w'.heap.size g cap hw hb2 hr2.out hg4 hown4 HB4.out⟩

end Go.Proofs.YtihbngfbcnojcaaGreat
