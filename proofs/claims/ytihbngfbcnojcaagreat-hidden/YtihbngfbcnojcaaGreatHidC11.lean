import Derived.Test.YtihbngfbcnojcaaGreatHidC10
import Derived.Shelf.SlIter.Nil
import Derived.Shelf.SortM.Plain
import Derived.Shelf.SortM.SortNone
namespace Go.Proofs.YtihbngfbcnojcaaGreat
open Go.RowKit

theorem meth_mayWrite_steal (c : Nat) (w : World) : (method 476 234 (.pointer (some ⟨c, 0, none⟩)) "MayWrite").run Tryz.prog w = .ok (280, .pointer (some ⟨c, 0, none⟩)) w := by kernel_rfl
theorem meth_mayWrite_noSteal (c : Nat) (w : World) : (method 476 224 (.pointer (some ⟨c, 0, none⟩)) "MayWrite").run Tryz.prog w = .ok (280, .pointer (some ⟨c, 0, none⟩)) w := by kernel_rfl
theorem meth_write_steal (c : Nat) (w : World) : (method 476 234 (.pointer (some ⟨c, 0, none⟩)) "Write").run Tryz.prog w = .ok (303, .pointer (some ⟨c, 0, none⟩)) w := by kernel_rfl
theorem meth_write_noSteal (c : Nat) (w : World) : (method 476 224 (.pointer (some ⟨c, 0, none⟩)) "Write").run Tryz.prog w = .ok (282, .pointer (some ⟨c, 0, none⟩)) w := by kernel_rfl

/-- What write has boxed for its function value. -/
structure Boxed (w : World) (b0 b1 b2 b3 a kb : Nat) (k : TypeId) (t : Int) (key : ByteArray) (is : Bool) (val : ByteArray) : Prop where
  h0 : w.cell? ⟨b0, 0, none⟩ = some (.pointer (some ⟨a, 0, none⟩))
  h1 : w.cell? ⟨b1, 0, none⟩ = some (.int .i64 t)
  h2 : w.cell? ⟨b2, 0, none⟩ = some (.string key)
  h3 : w.heap[b3]? = some (.cells #[.bool is, .string val] 38 (0, 0))
  ca : w.cell? ⟨a, 2, none⟩ = some (.iface k (.pointer (some ⟨kb, 0, none⟩)))
theorem Boxed.below {w w' : World} {b0 b1 b2 b3 a kb : Nat} {k : TypeId} {t : Int} {key : ByteArray} {is : Bool} {val : ByteArray} (h : Boxed w b0 b1 b2 b3 a kb k t key is val) (hb : Below w.heap.size w w') : Boxed w' b0 b1 b2 b3 a kb k t key is val :=
  ⟨(hb.cell (World.block_lt_of_cell? w _ h.h0)).trans h.h0, (hb.cell (World.block_lt_of_cell? w _ h.h1)).trans h.h1, (hb.cell (World.block_lt_of_cell? w _ h.h2)).trans h.h2, (hb.block _ (lt_of_block' h.h3)).trans h.h3, (hb.cell (World.block_lt_of_cell? w _ h.ca)).trans h.ca⟩
theorem Boxed.drew {w : World} {b0 b1 b2 b3 a kb : Nat} {k : TypeId} {t : Int} {key : ByteArray} {is : Bool} {val : ByteArray} (h : Boxed w b0 b1 b2 b3 a kb k t key is val) : Boxed w.drew b0 b1 b2 b3 a kb k t key is val := h.below (Below.refl _ w).drew

/-- What stands in a cell already is written there. -/
theorem setCell_id (w : World) (b o : Nat) (v : Value) (cs : Array Value) (ty : TypeId) (fr : Nat × Nat) (h : w.heap[b]? = some (.cells cs ty fr)) (hv : cs[o]? = some v) : w.setCell ⟨b, o, none⟩ v = w := by
  have e : (w.setCell ⟨b, o, none⟩ v).heap = w.heap := by
    apply Array.ext_getElem?
    intro i
    by_cases hi : i = b
    · subst hi
      have : cs.setIfInBounds o v = cs := by
        apply Array.ext_getElem?
        intro j
        by_cases hj : j = o
        · subst hj
          rw [Array.getElem?_setIfInBounds_self_of_lt (Array.getElem?_eq_some_iff.1 hv).1, hv]
        · exact Array.getElem?_setIfInBounds_ne (fun e => hj e.symm)
      simp [World.setCell, Array.getElem?_modify, h, this]
    · exact Below.heap_setCell _ _ _ _ hi
  cases w
  simp only [World.setCell] at e ⊢
  rw [e]

set_option maxRecDepth 100000 in
set_option maxHeartbeats 1000000 in
/-- write's function value, where the write is refused. -/
theorem write1_no_steal (b0 b1 b2 b3 a kb : Nat) (t : Int) (key : ByteArray) (is : Bool) (val : ByteArray) (c : Int) (hc : c ≠ 0) (w : World) (R : World → Prop) (hb : Boxed w b0 b1 b2 b3 a kb 234 t key is val)
    (KM : Calls Tryz.prog 280 #[.pointer (some ⟨kb, 0, none⟩), .int .i64 t, .string key, .agg #[.bool is, .string val]] w.drew fun e w' => e = .returned (.int .i64 c) ∧ R w' ∧ Boxed w' b0 b1 b2 b3 a kb 234 t key is val) :
    Calls Tryz.prog 68 #[.pointer (some ⟨b0, 0, none⟩), .pointer (some ⟨b1, 0, none⟩), .pointer (some ⟨b2, 0, none⟩), .pointer (some ⟨b3, 0, none⟩)] w fun e w' => e = .returned (.int .i64 c) ∧ R w' := by
  obtain ⟨h0, h1, h2, h3, ca⟩ := hb
  have h30 := cell_at (j := 0) h3 rfl
  have h31 := cell_at (j := 1) h3 rfl
  have hne : (c == 0) = false := by simpa using hc
  have HKM := @id (Hid (Calls _ _ _ w.drew _)) KM
  have hme := meth_mayWrite_steal
  clear KM h3
  go_enter Tryz.func68, Tryz.ntmps68
  go_wp2
  go_region_held3 (fun w' => w'.cell? ⟨b0, 0, none⟩ = some (.pointer (some ⟨a, 0, none⟩)) ∧ w'.cell? ⟨b1, 0, none⟩ = some (.int .i64 t) ∧ w'.cell? ⟨b2, 0, none⟩ = some (.string key) ∧ w'.cell? ⟨b3, 0, none⟩ = some (.bool is) ∧ w'.cell? ⟨b3, 1, none⟩ = some (.string val) ∧ w'.cell? ⟨a, 2, none⟩ = some (.iface 234 (.pointer (some ⟨kb, 0, none⟩))))
    (go_keep)
    (first
      | (go_at_call 280; go_must (
          refine HKM.out.mono ?_
          rintro e w1 ⟨rfl, hr, hb1⟩
          have HR : Hid (R w1) := hr
          have j0 := hb1.h0
          have j1 := hb1.h1
          have j2 := hb1.h2
          have j30 := cell_at (j := 0) hb1.h3 rfl
          have j31 := cell_at (j := 1) hb1.h3 rfl
          have ja := hb1.ca
          clear hr hb1)))
  all_goals
    go_wp2
    go_ret
    exact ⟨rfl, HR.out⟩

set_option maxRecDepth 100000 in
set_option maxHeartbeats 4000000 in
/-- write's function value, where it is not. -/
theorem write1_yes_steal (b0 b1 b2 b3 a kb : Nat) (t : Int) (key : ByteArray) (hks : key.size ≤ 281474976710656) (is : Bool) (val : ByteArray) (hvs : val.size ≤ 281474976710656) (w : World) (R0 R : World → Prop) (hb : Boxed w b0 b1 b2 b3 a kb 234 t key is val) (hd : b0 ≠ b3 ∧ b1 ≠ b3 ∧ b2 ≠ b3 ∧ a ≠ b3)
    (KM : Calls Tryz.prog 280 #[.pointer (some ⟨kb, 0, none⟩), .int .i64 t, .string key, .agg #[.bool is, .string val]] w.drew fun e w' => e = .returned (.int .i64 0) ∧ R0 w' ∧ Boxed w' b0 b1 b2 b3 a kb 234 t key is val)
    (KW : ∀ w1 W, R0 w1 → w1.heap.size ≤ W.heap.size → (∀ q, q < w1.heap.size → W.heap[q]? = w1.heap[q]?) → Below 0 w1 W → Calls Tryz.prog 303 #[.pointer (some ⟨kb, 0, none⟩), .int .i64 t, .string key, .agg #[.bool is, .string val]] W fun e w' => e = .returned (.tuple #[]) ∧ R w' ∧ Boxed w' b0 b1 b2 b3 a kb 234 t key is val) :
    Calls Tryz.prog 68 #[.pointer (some ⟨b0, 0, none⟩), .pointer (some ⟨b1, 0, none⟩), .pointer (some ⟨b2, 0, none⟩), .pointer (some ⟨b3, 0, none⟩)] w fun e w' => e = .returned (.int .i64 0) ∧ R w' := by
  obtain ⟨h0, h1, h2, h3, ca⟩ := hb
  have h30 := cell_at (j := 0) h3 rfl
  have h31 := cell_at (j := 1) h3 rfl
  have HKM := @id (Hid (Calls _ _ _ w.drew _)) KM
  have HKW := @id (Hid (∀ w1 W, R0 w1 → _ → _ → _ → Calls _ _ _ W _)) KW
  have KC : Hid (∀ W, Calls Tryz.prog 45 #[.string val] W fun e w' => e = .returned (.string val) ∧ Below W.heap.size W w') := fun W => clone_any val W hvs
  have KK : Hid (∀ W, Calls Tryz.prog 45 #[.string key] W fun e w' => e = .returned (.string key) ∧ Below W.heap.size W w') := fun W => clone_any key W hks
  have HD : Hid (b0 ≠ b3 ∧ b1 ≠ b3 ∧ b2 ≠ b3 ∧ a ≠ b3) := hd
  have hme := meth_mayWrite_steal
  have hmw := meth_write_steal
  clear KM KW h3 hd
  have tok1 : True := trivial
  go_enter Tryz.func68, Tryz.ntmps68
  go_wp2
  go_region_held3 (fun w' => w'.cell? ⟨b0, 0, none⟩ = some (.pointer (some ⟨a, 0, none⟩)) ∧ w'.cell? ⟨b1, 0, none⟩ = some (.int .i64 t) ∧ w'.cell? ⟨b2, 0, none⟩ = some (.string key) ∧ w'.cell? ⟨b3, 0, none⟩ = some (.bool is) ∧ w'.cell? ⟨b3, 1, none⟩ = some (.string val) ∧ w'.cell? ⟨a, 2, none⟩ = some (.iface 234 (.pointer (some ⟨kb, 0, none⟩))))
    (go_keep)
    (first
      | (go_at_call 280; go_must (
          refine HKM.out.mono ?_
          rintro e w1 ⟨rfl, hr, hb1⟩
          have HR : Hid (R0 w1) := hr
          have HB1 := @id (Hid (Boxed w1 _ _ _ _ _ _ _ _ _ _ _)) hb1
          have j0 := hb1.h0
          have j1 := hb1.h1
          have j2 := hb1.h2
          have j30 := cell_at (j := 0) hb1.h3 rfl
          have j31 := cell_at (j := 1) hb1.h3 rfl
          have ja := hb1.ca
          clear hr hb1)))
  all_goals
    clear h0 h1 h2 h30 h31 ca
    go_wp2_with (first
      | (have _t := tok1; go_at_call 45; go_must (
          clear tok1
          refine (KC.out _).mono ?_
          rintro e w2 ⟨rfl, hb2⟩
          have HBW := @id (Hid (Below w1.heap.size w1 w2)) hb2
          have hq2 : w2.heap[b3]? = some (.cells #[.bool is, .string val] 38 (0, 0)) := (hb2.block _ (lt_of_block' HB1.out.h3)).trans HB1.out.h3
          have x1 := cell_at (j := 1) hq2 rfl
          have y1 := frozen_at 1 hq2
          have hsame := setCell_id w2 b3 1 (.string val) _ _ _ hq2 rfl
          have hB2 : Boxed w2 b0 b1 b2 b3 a kb 234 t key is val := HB1.out.below hb2
          have HBO : Hid (∀ w3, Below w2.heap.size w2.drew w3 → Boxed w3 b0 b1 b2 b3 a kb 234 t key is val) := fun w3 h => hB2.drew.below h
          have u0 := hB2.h0
          have u1 := hB2.h1
          have u2 := hB2.h2
          have u30 := cell_at (j := 0) hB2.h3 rfl
          have ua := hB2.ca
          clear hb2 hq2 hB2)))
    go_region_held3 (fun w' => w'.cell? ⟨b0, 0, none⟩ = some (.pointer (some ⟨a, 0, none⟩)) ∧ w'.cell? ⟨b1, 0, none⟩ = some (.int .i64 t) ∧ w'.cell? ⟨b2, 0, none⟩ = some (.string key) ∧ w'.cell? ⟨b3, 0, none⟩ = some (.bool is) ∧ w'.cell? ⟨b3, 1, none⟩ = some (.string val) ∧ w'.cell? ⟨a, 2, none⟩ = some (.iface 234 (.pointer (some ⟨kb, 0, none⟩))))
      (go_keep)
      (first
        | (go_at_call 45; go_must (
            refine (KK.out _).mono ?_
            rintro e w3 ⟨rfl, hb3⟩
            have HBX := @id (Hid (Below w1.heap.size w1 w3)) ((HBW.out.drew).trans (hb3.mono HBW.out.size))
            have hB3 := HBO.out w3 hb3
            have z0 := hB3.h0
            have z1 := hB3.h1
            have z2 := hB3.h2
            have z30 := cell_at (j := 0) hB3.h3 rfl
            have z31 := cell_at (j := 1) hB3.h3 rfl
            have za := hB3.ca
            clear hb3 hB3))
        | (go_at_call 303; go_must (
            refine (HKW.out w1 w3 HR.out HBX.out.size (fun q hq => HBX.out.block q hq) (HBX.out.mono (Nat.zero_le _))).mono ?_
            rintro e w4 ⟨rfl, hr4, hB4⟩
            have HR4 : Hid (R w4) := hr4
            have z0 := hB4.h0
            have z1 := hB4.h1
            have z2 := hB4.h2
            have z30 := cell_at (j := 0) hB4.h3 rfl
            have z31 := cell_at (j := 1) hB4.h3 rfl
            have za := hB4.ca
            clear hr4 hB4)))
    all_goals
      go_wp2
      go_ret
      exact ⟨rfl, HR4.out⟩

set_option maxRecDepth 100000 in
set_option maxHeartbeats 1000000 in
/-- write's function value, where the write is refused. -/
theorem write1_no_noSteal (b0 b1 b2 b3 a kb : Nat) (t : Int) (key : ByteArray) (is : Bool) (val : ByteArray) (c : Int) (hc : c ≠ 0) (w : World) (R : World → Prop) (hb : Boxed w b0 b1 b2 b3 a kb 224 t key is val)
    (KM : Calls Tryz.prog 280 #[.pointer (some ⟨kb, 0, none⟩), .int .i64 t, .string key, .agg #[.bool is, .string val]] w.drew fun e w' => e = .returned (.int .i64 c) ∧ R w' ∧ Boxed w' b0 b1 b2 b3 a kb 224 t key is val) :
    Calls Tryz.prog 68 #[.pointer (some ⟨b0, 0, none⟩), .pointer (some ⟨b1, 0, none⟩), .pointer (some ⟨b2, 0, none⟩), .pointer (some ⟨b3, 0, none⟩)] w fun e w' => e = .returned (.int .i64 c) ∧ R w' := by
  obtain ⟨h0, h1, h2, h3, ca⟩ := hb
  have h30 := cell_at (j := 0) h3 rfl
  have h31 := cell_at (j := 1) h3 rfl
  have hne : (c == 0) = false := by simpa using hc
  have HKM := @id (Hid (Calls _ _ _ w.drew _)) KM
  have hme := meth_mayWrite_noSteal
  clear KM h3
  go_enter Tryz.func68, Tryz.ntmps68
  go_wp2
  go_region_held3 (fun w' => w'.cell? ⟨b0, 0, none⟩ = some (.pointer (some ⟨a, 0, none⟩)) ∧ w'.cell? ⟨b1, 0, none⟩ = some (.int .i64 t) ∧ w'.cell? ⟨b2, 0, none⟩ = some (.string key) ∧ w'.cell? ⟨b3, 0, none⟩ = some (.bool is) ∧ w'.cell? ⟨b3, 1, none⟩ = some (.string val) ∧ w'.cell? ⟨a, 2, none⟩ = some (.iface 224 (.pointer (some ⟨kb, 0, none⟩))))
    (go_keep)
    (first
      | (go_at_call 280; go_must (
          refine HKM.out.mono ?_
          rintro e w1 ⟨rfl, hr, hb1⟩
          have HR : Hid (R w1) := hr
          have j0 := hb1.h0
          have j1 := hb1.h1
          have j2 := hb1.h2
          have j30 := cell_at (j := 0) hb1.h3 rfl
          have j31 := cell_at (j := 1) hb1.h3 rfl
          have ja := hb1.ca
          clear hr hb1)))
  all_goals
    go_wp2
    go_ret
    exact ⟨rfl, HR.out⟩

set_option maxRecDepth 100000 in
set_option maxHeartbeats 4000000 in
/-- write's function value, where it is not. -/
theorem write1_yes_noSteal (b0 b1 b2 b3 a kb : Nat) (t : Int) (key : ByteArray) (hks : key.size ≤ 281474976710656) (is : Bool) (val : ByteArray) (hvs : val.size ≤ 281474976710656) (w : World) (R0 R : World → Prop) (hb : Boxed w b0 b1 b2 b3 a kb 224 t key is val) (hd : b0 ≠ b3 ∧ b1 ≠ b3 ∧ b2 ≠ b3 ∧ a ≠ b3)
    (KM : Calls Tryz.prog 280 #[.pointer (some ⟨kb, 0, none⟩), .int .i64 t, .string key, .agg #[.bool is, .string val]] w.drew fun e w' => e = .returned (.int .i64 0) ∧ R0 w' ∧ Boxed w' b0 b1 b2 b3 a kb 224 t key is val)
    (KW : ∀ w1 W, R0 w1 → w1.heap.size ≤ W.heap.size → (∀ q, q < w1.heap.size → W.heap[q]? = w1.heap[q]?) → Below 0 w1 W → Calls Tryz.prog 282 #[.pointer (some ⟨kb, 0, none⟩), .int .i64 t, .string key, .agg #[.bool is, .string val]] W fun e w' => e = .returned (.tuple #[]) ∧ R w' ∧ Boxed w' b0 b1 b2 b3 a kb 224 t key is val) :
    Calls Tryz.prog 68 #[.pointer (some ⟨b0, 0, none⟩), .pointer (some ⟨b1, 0, none⟩), .pointer (some ⟨b2, 0, none⟩), .pointer (some ⟨b3, 0, none⟩)] w fun e w' => e = .returned (.int .i64 0) ∧ R w' := by
  obtain ⟨h0, h1, h2, h3, ca⟩ := hb
  have h30 := cell_at (j := 0) h3 rfl
  have h31 := cell_at (j := 1) h3 rfl
  have HKM := @id (Hid (Calls _ _ _ w.drew _)) KM
  have HKW := @id (Hid (∀ w1 W, R0 w1 → _ → _ → _ → Calls _ _ _ W _)) KW
  have KC : Hid (∀ W, Calls Tryz.prog 45 #[.string val] W fun e w' => e = .returned (.string val) ∧ Below W.heap.size W w') := fun W => clone_any val W hvs
  have KK : Hid (∀ W, Calls Tryz.prog 45 #[.string key] W fun e w' => e = .returned (.string key) ∧ Below W.heap.size W w') := fun W => clone_any key W hks
  have HD : Hid (b0 ≠ b3 ∧ b1 ≠ b3 ∧ b2 ≠ b3 ∧ a ≠ b3) := hd
  have hme := meth_mayWrite_noSteal
  have hmw := meth_write_noSteal
  clear KM KW h3 hd
  have tok1 : True := trivial
  go_enter Tryz.func68, Tryz.ntmps68
  go_wp2
  go_region_held3 (fun w' => w'.cell? ⟨b0, 0, none⟩ = some (.pointer (some ⟨a, 0, none⟩)) ∧ w'.cell? ⟨b1, 0, none⟩ = some (.int .i64 t) ∧ w'.cell? ⟨b2, 0, none⟩ = some (.string key) ∧ w'.cell? ⟨b3, 0, none⟩ = some (.bool is) ∧ w'.cell? ⟨b3, 1, none⟩ = some (.string val) ∧ w'.cell? ⟨a, 2, none⟩ = some (.iface 224 (.pointer (some ⟨kb, 0, none⟩))))
    (go_keep)
    (first
      | (go_at_call 280; go_must (
          refine HKM.out.mono ?_
          rintro e w1 ⟨rfl, hr, hb1⟩
          have HR : Hid (R0 w1) := hr
          have HB1 := @id (Hid (Boxed w1 _ _ _ _ _ _ _ _ _ _ _)) hb1
          have j0 := hb1.h0
          have j1 := hb1.h1
          have j2 := hb1.h2
          have j30 := cell_at (j := 0) hb1.h3 rfl
          have j31 := cell_at (j := 1) hb1.h3 rfl
          have ja := hb1.ca
          clear hr hb1)))
  all_goals
    clear h0 h1 h2 h30 h31 ca
    go_wp2_with (first
      | (have _t := tok1; go_at_call 45; go_must (
          clear tok1
          refine (KC.out _).mono ?_
          rintro e w2 ⟨rfl, hb2⟩
          have HBW := @id (Hid (Below w1.heap.size w1 w2)) hb2
          have hq2 : w2.heap[b3]? = some (.cells #[.bool is, .string val] 38 (0, 0)) := (hb2.block _ (lt_of_block' HB1.out.h3)).trans HB1.out.h3
          have x1 := cell_at (j := 1) hq2 rfl
          have y1 := frozen_at 1 hq2
          have hsame := setCell_id w2 b3 1 (.string val) _ _ _ hq2 rfl
          have hB2 : Boxed w2 b0 b1 b2 b3 a kb 224 t key is val := HB1.out.below hb2
          have HBO : Hid (∀ w3, Below w2.heap.size w2.drew w3 → Boxed w3 b0 b1 b2 b3 a kb 224 t key is val) := fun w3 h => hB2.drew.below h
          have u0 := hB2.h0
          have u1 := hB2.h1
          have u2 := hB2.h2
          have u30 := cell_at (j := 0) hB2.h3 rfl
          have ua := hB2.ca
          clear hb2 hq2 hB2)))
    go_region_held3 (fun w' => w'.cell? ⟨b0, 0, none⟩ = some (.pointer (some ⟨a, 0, none⟩)) ∧ w'.cell? ⟨b1, 0, none⟩ = some (.int .i64 t) ∧ w'.cell? ⟨b2, 0, none⟩ = some (.string key) ∧ w'.cell? ⟨b3, 0, none⟩ = some (.bool is) ∧ w'.cell? ⟨b3, 1, none⟩ = some (.string val) ∧ w'.cell? ⟨a, 2, none⟩ = some (.iface 224 (.pointer (some ⟨kb, 0, none⟩))))
      (go_keep)
      (first
        | (go_at_call 45; go_must (
            refine (KK.out _).mono ?_
            rintro e w3 ⟨rfl, hb3⟩
            have HBX := @id (Hid (Below w1.heap.size w1 w3)) ((HBW.out.drew).trans (hb3.mono HBW.out.size))
            have hB3 := HBO.out w3 hb3
            have z0 := hB3.h0
            have z1 := hB3.h1
            have z2 := hB3.h2
            have z30 := cell_at (j := 0) hB3.h3 rfl
            have z31 := cell_at (j := 1) hB3.h3 rfl
            have za := hB3.ca
            clear hb3 hB3))
        | (go_at_call 282; go_must (
            refine (HKW.out w1 w3 HR.out HBX.out.size (fun q hq => HBX.out.block q hq) (HBX.out.mono (Nat.zero_le _))).mono ?_
            rintro e w4 ⟨rfl, hr4, hB4⟩
            have HR4 : Hid (R w4) := hr4
            have z0 := hB4.h0
            have z1 := hB4.h1
            have z2 := hB4.h2
            have z30 := cell_at (j := 0) hB4.h3 rfl
            have z31 := cell_at (j := 1) hB4.h3 rfl
            have za := hB4.ca
            clear hr4 hB4)))
    all_goals
      go_wp2
      go_ret
      exact ⟨rfl, HR4.out⟩
end Go.Proofs.YtihbngfbcnojcaaGreat

namespace Go.Proofs.YtihbngfbcnojcaaGreat
open Go.RowKit

/-- A key of page n that is on the page, or held as written. -/
def keptKey (s : Sv) (n : Nat) (k : ByteArray) : Prop := (∃ p ∈ s.cont n, p.1 = k) ∨ (bucket k = n ∧ ∃ t x, s.tx t = some x ∧ holdOf x.H k = 2)
/-- There is room for a key. -/
def Roomy (s : Sv) (key : ByteArray) : Prop := ∃ L : List ByteArray, L.Nodup ∧ (∀ k, k ∈ L ↔ keptKey s (bucket key) k) ∧ (key ∈ L ∨ L.length < 4)

theorem length_same {α : Type} {L L' : List α} (h : L.Nodup) (h' : L'.Nodup) (e : ∀ x, x ∈ L ↔ x ∈ L') : L.length = L'.length :=
  Nat.le_antisymm (h.length_le_of_subset fun x hx => (e x).1 hx) (h'.length_le_of_subset fun x hx => (e x).2 hx)

theorem heldKey_iff {s : Sv} {q : Nat} (g : Good s) (hh : Held s q) (n : Nat) (k : ByteArray) : HeldKey s.mo.M s.tabs n k ↔ bucket k = n ∧ ∃ t x, s.tx t = some x ∧ holdOf x.H k = 2 := by
  constructor
  · rintro ⟨t, h1, h2, h3⟩
    rw [open_has g] at h1
    obtain ⟨x, hx⟩ := Option.isSome_iff_exists.1 h1
    simp only [Sv.tabs, hx] at h2
    exact ⟨h3, t, x, hx, by unfold holdOf; rw [h2]; rfl⟩
  · rintro ⟨h1, t, x, hx, h2⟩
    refine ⟨t, by rw [open_has g, hx]; rfl, ?_, h1⟩
    simp only [Sv.tabs, hx]
    rcases (hh t x hx).2.1 k with h3 | ⟨y, _, _, _, h3⟩
    · unfold holdOf at h2; rw [h3] at h2; simp [intIn] at h2
    · unfold holdOf at h2; rw [h3] at h2; simp only [intIn] at h2; subst h2; exact h3

theorem kept_list {s : Sv} {q : Nat} (g : Good s) (hh : Held s q) (n : Nat) {Kd : DataW Value} (h : AllKept (s.cont n) s.mo.M s.tabs n Kd) : ∃ L : List ByteArray, L.Nodup ∧ L.length = Maps.size Kd ∧ (∀ k, k ∈ L ↔ Maps.has Kd (lit k) = true) ∧ ∀ k, k ∈ L ↔ keptKey s n k := by
  obtain ⟨h1, h2, h3⟩ := h
  obtain ⟨L, l1, l2, l3⟩ := h1.keys
  refine ⟨L, l1, l2, l3, fun k => (l3 k).trans ⟨fun hk => ?_, ?_⟩⟩
  · rcases h1.sound k hk with h4 | h4
    · exact .inl h4
    · exact .inr ((heldKey_iff g hh n k).1 h4)
  · rintro (⟨p, hp, rfl⟩ | h4)
    · exact h2 p hp
    · exact h3 k ((heldKey_iff g hh n k).2 h4)

theorem room_iff {s : Sv} {q : Nat} (g : Good s) (hh : Held s q) (key : ByteArray) {Kd : DataW Value} (h : AllKept (s.cont (bucket key)) s.mo.M s.tabs (bucket key) Kd) : (Maps.has Kd (lit key) || decide (Maps.size Kd < 4)) = true ↔ Roomy s key := by
  obtain ⟨L, l1, l2, l3, l4⟩ := kept_list g hh _ h
  rw [Bool.or_eq_true, decide_eq_true_eq, ← l3, ← l2]
  constructor
  · intro hc
    exact ⟨L, l1, l4, hc⟩
  · rintro ⟨L', m1, m2, m3⟩
    have e : ∀ x, x ∈ L' ↔ x ∈ L := fun x => (m2 x).trans (l4 x).symm
    rw [← length_same m1 l1 e, ← e]
    exact m3

/-- Nothing stands against writing a key. -/
structure WFree (s : Sv) (t : Int) (key val : ByteArray) : Prop where
  name : nameErr (s.tx t).isSome key = 0
  size : val.size ≤ 12
  free : ∀ u x, s.tx u = some x → u ≠ t → holdOf x.H key = 0
  acts : s.acts < 120
  room : Roomy s key

/-- What a write answers where something does. -/
def WErr (s : Sv) (t : Int) (key val : ByteArray) (c : Int) : Prop :=
  (nameErr (s.tx t).isSome key ≠ 0 ∧ c = nameErr (s.tx t).isSome key) ∨ (nameErr (s.tx t).isSome key = 0 ∧ 12 < val.size ∧ c = 7) ∨
  (nameErr (s.tx t).isSome key = 0 ∧ val.size ≤ 12 ∧ (∃ u x, s.tx u = some x ∧ u ≠ t ∧ 1 ≤ holdOf x.H key) ∧ c = 8) ∨
  (nameErr (s.tx t).isSome key = 0 ∧ val.size ≤ 12 ∧ (∀ u x, s.tx u = some x → u ≠ t → holdOf x.H key ≤ 0) ∧ (120 ≤ s.acts ∨ ¬ Roomy s key) ∧ c = 10)
theorem WErr.ne {s : Sv} {t : Int} {key val : ByteArray} {c : Int} (h : WErr s t key val c) : c ≠ 0 := by
  rcases h with ⟨h1, rfl⟩ | ⟨_, _, rfl⟩ | ⟨_, _, _, rfl⟩ | ⟨_, _, _, _, rfl⟩
  · exact h1
  all_goals omega

theorem mayWrite_free {w : World} {s : Sv} {q : Nat} (h : Lies w s) (g : Good s) (hh : Held s q) (hq : q ≤ 100000) (t : Int) (ht : IsInt t) (key : ByteArray) (hks : key.size ≤ 140737488355328) (is : Bool) (val : ByteArray) (hf : WFree s t key val) :
    Calls Tryz.prog 280 #[.pointer (some ⟨s.kb, 0, none⟩), .int .i64 t, .string key, .agg #[.bool is, .string val]] w fun e w' => e = .returned (.int .i64 0) ∧ ∃ s', Paged s s' ∧ Goes w w' s s' := by
  have hsz := hf.size
  refine (mayWrite_step h g hh hq t ht key hks is val (by omega)).mono ?_
  rintro e w' ⟨c, s', rfl, h1, h2, h3⟩
  suffices c = 0 by subst this; exact ⟨rfl, s', h1, h2⟩
  rcases h3 with ⟨h3, _⟩ | ⟨_, h3, _⟩ | ⟨_, _, m, ⟨m1, m2, m3, m4⟩, h3⟩
  · exact absurd hf.name h3
  · omega
  · have hm : m = 0 := by
      rcases m4 with m4 | ⟨u, x, u1, u2, u3⟩
      · exact m4
      · rw [← u3]; exact hf.free u x u1 u2
    rcases h3 with ⟨h3, _⟩ | ⟨_, h3, _⟩ | ⟨_, _, Kd, h3, rfl⟩
    · omega
    · have := hf.acts; omega
    · rw [if_pos ((room_iff g hh key h3).2 hf.room)]

theorem mayWrite_barred {w : World} {s : Sv} {q : Nat} (h : Lies w s) (g : Good s) (hh : Held s q) (hq : q ≤ 100000) (t : Int) (ht : IsInt t) (key : ByteArray) (hks : key.size ≤ 140737488355328) (is : Bool) (val : ByteArray) (hvs : val.size ≤ 140737488355328) (c : Int) (hf : WErr s t key val c) :
    Calls Tryz.prog 280 #[.pointer (some ⟨s.kb, 0, none⟩), .int .i64 t, .string key, .agg #[.bool is, .string val]] w fun e w' => e = .returned (.int .i64 c) ∧ ∃ s', Paged s s' ∧ Goes w w' s s' := by
  refine (mayWrite_step h g hh hq t ht key hks is val hvs).mono ?_
  rintro e w' ⟨c', s', rfl, h1, h2, h3⟩
  suffices c' = c by subst this; exact ⟨rfl, s', h1, h2⟩
  rcases h3 with ⟨h3, rfl⟩ | ⟨h4, h3, rfl⟩ | ⟨h4, h5, m, ⟨m1, m2, m3, m4⟩, h3⟩
  · rcases hf with ⟨_, rfl⟩ | ⟨a, _⟩ | ⟨a, _⟩ | ⟨a, _⟩
    · rfl
    all_goals exact absurd a h3
  · rcases hf with ⟨a, _⟩ | ⟨_, _, rfl⟩ | ⟨_, a, _⟩ | ⟨_, a, _⟩
    · exact absurd h4 a
    · rfl
    all_goals omega
  · rcases hf with ⟨a, _⟩ | ⟨_, a, _⟩ | ⟨_, _, ⟨u, x, u1, u2, u3⟩, rfl⟩ | ⟨_, _, a, b, rfl⟩
    · exact absurd h4 a
    · omega
    · have := m3 u x u1 u2
      rcases h3 with ⟨_, rfl⟩ | ⟨h3, _⟩ | ⟨h3, _⟩
      · rfl
      all_goals omega
    · have hm : m = 0 := by
        rcases m4 with m4 | ⟨u, x, u1, u2, u3⟩
        · exact m4
        · have := a u x u1 u2; omega
      rcases h3 with ⟨h3, _⟩ | ⟨_, _, rfl⟩ | ⟨_, h6, Kd, h3, rfl⟩
      · omega
      · rfl
      · rcases b with b | b
        · omega
        · rw [if_neg (fun hc => b ((room_iff g hh key h3).1 hc))]
end Go.Proofs.YtihbngfbcnojcaaGreat

namespace Go.Proofs.YtihbngfbcnojcaaGreat
open Go.RowKit

theorem Boxed.goes {W w' : World} {s s' : Sv} {b0 b1 b2 b3 a kb : Nat} {k : TypeId} {t : Int} {key : ByteArray} {is : Bool} {val : ByteArray} (h : Boxed W b0 b1 b2 b3 a kb k t key is val) (hg : Goes W w' s s') (hn : ∀ b ∈ [b0, b1, b2, b3, a], ∀ tag, s.blk tag ≠ some b) : Boxed w' b0 b1 b2 b3 a kb k t key is val :=
  ⟨(World.cell?_of_block (hg.off b0 (World.block_lt_of_cell? W _ h.h0) (hn b0 (by simp)))).trans h.h0, (World.cell?_of_block (hg.off b1 (World.block_lt_of_cell? W _ h.h1) (hn b1 (by simp)))).trans h.h1, (World.cell?_of_block (hg.off b2 (World.block_lt_of_cell? W _ h.h2) (hn b2 (by simp)))).trans h.h2,
   (hg.off b3 (lt_of_block' h.h3) (hn b3 (by simp))).trans h.h3, (World.cell?_of_block (hg.off a (World.block_lt_of_cell? W _ h.ca) (hn a (by simp)))).trans h.ca⟩

/-- What write hands to alive, whatever it does. -/
def WriteDoes (w : World) (s : Sv) (a : Nat) (k : TypeId) (t : Int) (key : ByteArray) (is : Bool) (val : ByteArray) (Q : Int → Sv → Prop) : Prop :=
  ∀ W b0 b1 b2 b3, Below w.heap.size w W → Boxed W b0 b1 b2 b3 a s.kb k t key is val → (b0 ≠ b3 ∧ b1 ≠ b3 ∧ b2 ≠ b3 ∧ a ≠ b3) → (∀ b ∈ [b0, b1, b2, b3], w.heap.size ≤ b) →
    Calls Tryz.prog 68 #[.pointer (some ⟨b0, 0, none⟩), .pointer (some ⟨b1, 0, none⟩), .pointer (some ⟨b2, 0, none⟩), .pointer (some ⟨b3, 0, none⟩)] W fun e w' => ∃ x s', e = .returned (.int .i64 x) ∧ Q x s' ∧ Goes W w' s s'

set_option maxRecDepth 100000 in
set_option maxHeartbeats 2000000 in
theorem write_over {w : World} {s : Sv} (h : Lies w s) (a : Nat) (haw : a < w.heap.size) (k : TypeId) (ca : w.cell? ⟨a, 2, none⟩ = some (.iface k (.pointer (some ⟨s.kb, 0, none⟩)))) (t : Int) (key : ByteArray) (is : Bool) (val : ByteArray) (Q : Int → Sv → Prop) (KD : WriteDoes w s a k t key is val Q) :
    Calls Tryz.prog 42 #[.pointer (some ⟨a, 0, none⟩), .int .i64 t, .string key, .agg #[.bool is, .string val]] w fun e w' => ∃ x s', e = .returned (.int .i64 x) ∧ Q x s' ∧ Goes w w' s s' := by
  obtain ⟨W4, hW4⟩ : ∃ W4, W4 = (((w.alloc (.cells #[.pointer (some ⟨a, 0, none⟩)] 26)).alloc (.cells #[.int .i64 t] 3)).alloc (.cells #[.string key] 9)).alloc (.cells #[.bool is, .string val] 38) := ⟨_, rfl⟩
  have hz : W4.heap.size = w.heap.size + 4 := by rw [hW4]; simp
  have hb4 : Below w.heap.size w W4 := by rw [hW4]; exact ((((Below.refl _ w).alloc (Nat.le_refl _) _).alloc (by simp) _).alloc (by simp; omega) _).alloc (by simp; omega) _
  have g0 : W4.heap[w.heap.size]? = some (.cells #[.pointer (some ⟨a, 0, none⟩)] 26 (0, 0)) := by
    rw [hW4, Below.heap_alloc _ _ _ (by simp; omega), Below.heap_alloc _ _ _ (by simp; omega), Below.heap_alloc _ _ _ (by simp)]; exact heap_alloc_new _ _
  have g1 : W4.heap[w.heap.size + 1]? = some (.cells #[.int .i64 t] 3 (0, 0)) := by
    rw [hW4, Below.heap_alloc _ _ _ (by simp; try omega), Below.heap_alloc _ _ _ (by simp)]; simpa using heap_alloc_new (w.alloc (.cells #[.pointer (some ⟨a, 0, none⟩)] 26)) _
  have g2 : W4.heap[w.heap.size + 2]? = some (.cells #[.string key] 9 (0, 0)) := by
    rw [hW4, Below.heap_alloc _ _ _ (by simp)]; simpa using heap_alloc_new ((w.alloc (.cells #[.pointer (some ⟨a, 0, none⟩)] 26)).alloc (.cells #[.int .i64 t] 3)) _
  have g3 : W4.heap[w.heap.size + 3]? = some (.cells #[.bool is, .string val] 38 (0, 0)) := by
    rw [hW4]; simpa using heap_alloc_new (((w.alloc (.cells #[.pointer (some ⟨a, 0, none⟩)] 26)).alloc (.cells #[.int .i64 t] 3)).alloc (.cells #[.string key] 9)) _
  have ca4 : W4.cell? ⟨a, 2, none⟩ = some (.iface k (.pointer (some ⟨s.kb, 0, none⟩))) := (hb4.cell haw).trans ca
  have KA : Hid (Calls Tryz.prog 53 #[.pointer (some ⟨a, 0, none⟩), .func (.func 68) #[] #[.pointer (some ⟨w.heap.size, 0, none⟩), .pointer (some ⟨w.heap.size + 1, 0, none⟩), .pointer (some ⟨w.heap.size + 2, 0, none⟩), .pointer (some ⟨w.heap.size + 3, 0, none⟩)]] W4 fun e w' => ∃ x s', e = .returned (.int .i64 x) ∧ Q x s' ∧ Goes w w' s s') := by
    refine (alive_quiet a k _ 68 _ W4 (fun x w' => ∃ W s', Below w.heap.size w W ∧ W.heap.size = W4.heap.size + 2 ∧ Q x s' ∧ Goes W w' s s') ca4 ?_ (fun args w => rfl)).mono ?_
    · intro o1 o2
      have hb5 : Below W4.heap.size W4 (W4.alloc o1) := (Below.refl _ W4).alloc (Nat.le_refl _) _
      have hb6 : Below W4.heap.size W4 ((W4.alloc o1).alloc o2) := hb5.alloc (by simp) _
      have hbw : Below w.heap.size w ((W4.alloc o1).alloc o2) := hb4.trans (hb6.mono (by omega))
      have hbox : Boxed ((W4.alloc o1).alloc o2) w.heap.size (w.heap.size + 1) (w.heap.size + 2) (w.heap.size + 3) a s.kb k t key is val :=
        Boxed.below ⟨cell_at (j := 0) g0 rfl, cell_at (j := 0) g1 rfl, cell_at (j := 0) g2 rfl, g3, ca4⟩ hb6
      refine (KD _ _ _ _ _ hbw hbox ⟨by omega, by omega, by omega, by omega⟩ (by simp)).mono ?_
      rintro e w' ⟨x, s', rfl, h1, h2⟩
      refine ⟨x, rfl, ?_, _, s', hbw, by simp, h1, h2⟩
      exact ((h2.own h (q := W4.heap.size + 1) (by omega) (by simp)).1).trans (by simpa using heap_alloc_new (W4.alloc o1) o2)
    · rintro e w' ⟨x, w1, rfl, ⟨W, s', h1, h2, h3, h4⟩, rfl⟩
      refine ⟨x, s', rfl, h3, Goes.wrap h h1 h4 (fun q _ hq => ?_) ((Below.refl _ _).setCell (p := ⟨W4.heap.size + 1, 0, none⟩) (by simp) _)⟩
      exact Below.heap_setCell _ _ _ _ (by show q ≠ W4.heap.size + 1; omega)
  clear KD h ca ca4 g0 g1 g2 g3 hb4
  have hmf : ∀ (fn : Fn) (first cap : Array Value) (w : World), (Instr.makeFunc fn first cap).run Tryz.prog w = .ok (.func fn first cap) w := fun _ _ _ _ => rfl
  subst hW4
  generalize Goes w = GO at KA ⊢
  go_enter Tryz.func42, Tryz.ntmps42
  go_wp2_with (first
    | (go_at_call 53; go_must (
        refine KA.out.mono ?_
        rintro e w1 ⟨x, s', rfl, h1, h2⟩
        have HX : Hid (Q x s' ∧ GO w1 s s') := ⟨h1, h2⟩
        clear h1 h2)))
  go_ret
  exact ⟨x, s', rfl, HX.out⟩
end Go.Proofs.YtihbngfbcnojcaaGreat

namespace Go.Proofs.YtihbngfbcnojcaaGreat
open Go.RowKit

/-- No page has more than four keys, with those that are held as written. -/
def Cap (s : Sv) : Prop := ∀ n, n < 8 → ∃ L : List ByteArray, L.length ≤ 4 ∧ ∀ k, keptKey s n k → k ∈ L

theorem rising_nodup {ps : Pairs} (h : RisingAt ps) : (ps.map (·.1)).Nodup := by
  have h1 := rising_pw.1 h
  rw [List.nodup_iff_pairwise_ne, List.pairwise_map]
  exact h1.imp (fun {a b} hab e => blt_ne hab e)

theorem fit_of {s : Sv} (g : Good s) (hc : Cap s) (key : ByteArray) (hr : Roomy s key) (is : Bool) (val : ByteArray) : (withL (s.cont (bucket key)) key is val).length ≤ 4 := by
  obtain ⟨r1, r2, r3⟩ := g.rise _ (bucket_lt key)
  have hn := rising_nodup (withL_rising r1 key is val)
  have hk : ∀ k ∈ (withL (s.cont (bucket key)) key is val).map (·.1), k = key ∨ keptKey s (bucket key) k := fun k hk => by
    obtain ⟨p, hp, rfl⟩ := List.mem_map.1 hk
    rcases withL_mem r1 key is val hp with h1 | ⟨_, h1⟩
    · exact .inr (.inl ⟨p, h1, rfl⟩)
    · exact .inl (by rw [h1])
  rw [← List.length_map (f := (·.1))]
  obtain ⟨L, l1, l2, l3⟩ := hr
  rcases l3 with l3 | l3
  · obtain ⟨L', m1, m2⟩ := hc _ (bucket_lt key)
    refine Nat.le_trans (hn.length_le_of_subset (l₂ := L') fun k hk' => ?_) m1
    rcases hk k hk' with rfl | h
    · exact m2 _ ((l2 _).1 l3)
    · exact m2 _ h
  · refine Nat.le_trans (hn.length_le_of_subset (l₂ := key :: L) fun k hk' => ?_) (by simp; omega)
    rcases hk k hk' with rfl | h
    · simp
    · exact List.mem_cons_of_mem _ ((l2 _).2 h)

/-- A store in memory, and what the calls go by. -/
structure Live (w : World) (a : Nat) (k : TypeId) (s : Sv) (q : Nat) : Prop where
  lies : Lies w s
  good : Good s
  held : Held s q
  cap : Cap s
  haw : a < w.heap.size
  hao : ∀ tag, s.blk tag ≠ some a
  ca : w.cell? ⟨a, 2, none⟩ = some (.iface k (.pointer (some ⟨s.kb, 0, none⟩)))
theorem Live.go {w w' : World} {a : Nat} {k : TypeId} {s s' : Sv} {q q' : Nat} (h : Live w a k s q) (g : Goes w w' s s') (hh : Held s' q') (hc : Cap s') (hk : s'.kb = s.kb) : Live w' a k s' q' :=
  ⟨g.lies, g.good, hh, hc, by have := g.below.size; have := h.haw; omega, fun tag ht => by
    rcases g.grown tag a ht with h1 | h1
    · exact h.hao tag h1
    · have := h.haw; omega, by rw [hk]; exact (World.cell?_of_block (g.off a h.haw h.hao)).trans h.ca⟩

theorem Paged.kept {s s' : Sv} (h : Paged s s') (n : Nat) (k : ByteArray) : keptKey s' n k ↔ keptKey s n k := by
  obtain ⟨P, m, rfl, _⟩ := h
  exact Iff.rfl
theorem Paged.roomy {s s' : Sv} (h : Paged s s') (key : ByteArray) : Roomy s' key ↔ Roomy s key := by
  obtain ⟨P, m, rfl, _⟩ := h
  exact Iff.rfl
theorem Paged.cap {s s' : Sv} (h : Paged s s') (hc : Cap s) : Cap s' := by
  obtain ⟨P, m, rfl, _⟩ := h
  exact hc

theorem not_part {w : World} {s : Sv} (h : Lies w s) {a : Nat} (ha : ∀ tag, s.blk tag ≠ some a) {b0 b1 b2 b3 : Nat} (hb : ∀ b ∈ [b0, b1, b2, b3], w.heap.size ≤ b) : ∀ b ∈ [b0, b1, b2, b3, a], ∀ tag, s.blk tag ≠ some b := fun b hb' tag ht => by
  have : b ∈ [b0, b1, b2, b3] ∨ b = a := by simp at hb' ⊢; omega
  rcases this with h1 | rfl
  · have := hb b h1; have := h.lt tag b ht; omega
  · exact ha tag ht

/-- A write that is refused. -/
theorem storeWrite_no {w : World} {a : Nat} {s : Sv} {q : Nat} (k : Bool) (L : Live w a (kindT k) s q) (hq : q ≤ 100000) (t : Int) (ht : IsInt t) (key : ByteArray) (hks : key.size ≤ 140737488355328) (is : Bool) (val : ByteArray) (hvs : val.size ≤ 140737488355328) (c : Int) (hf : WErr s t key val c) :
    Calls Tryz.prog 42 #[.pointer (some ⟨a, 0, none⟩), .int .i64 t, .string key, .agg #[.bool is, .string val]] w fun e w' => ∃ s', e = .returned (.int .i64 c) ∧ Paged s s' ∧ Goes w w' s s' := by
  refine (write_over L.lies a L.haw (kindT k) L.ca t key is val (fun x s' => x = c ∧ Paged s s') ?_).mono ?_
  · intro W b0 b1 b2 b3 hb hbox hd hw
    have hWd : Below w.heap.size w W.drew := hb.drew
    have hnp := not_part L.lies L.hao hw
    have hgd : Goes W W.drew s s := Goes.of_below (L.lies.below hb) L.good (Below.refl _ W).drew
    have KM := (mayWrite_barred (L.lies.below hWd) L.good L.held hq t ht key hks is val hvs c hf).mono (R' := fun e w' => e = .returned (.int .i64 c) ∧ (∃ s', Paged s s' ∧ Goes W w' s s') ∧ Boxed w' b0 b1 b2 b3 a s.kb (kindT k) t key is val) (by
      rintro e w' ⟨h1, s', h2, h3⟩
      have h4 := hgd.trans h3
      exact ⟨h1, ⟨s', h2, h4⟩, hbox.goes h4 hnp⟩)
    cases k with
    | true =>
      refine (write1_no_steal b0 b1 b2 b3 a s.kb t key is val c hf.ne W _ hbox KM).mono ?_
      rintro e w' ⟨h1, s', h2, h3⟩
      exact ⟨c, s', h1, ⟨rfl, h2⟩, h3⟩
    | false =>
      refine (write1_no_noSteal b0 b1 b2 b3 a s.kb t key is val c hf.ne W _ hbox KM).mono ?_
      rintro e w' ⟨h1, s', h2, h3⟩
      exact ⟨c, s', h1, ⟨rfl, h2⟩, h3⟩
  · rintro e w' ⟨x, s', h1, ⟨rfl, h2⟩, h3⟩
    exact ⟨s', h1, h2, h3⟩

/-- A write that is done, where pages are changed at once. -/
theorem storeWrite_steal {w : World} {a : Nat} {s : Sv} {q : Nat} (L : Live w a 234 s q) (hq : q ≤ 99999) (hlen : s.len ≤ 390) (t : Int) (ht : 0 ≤ t ∧ t < 256) (x : TxE) (hx : s.tx t = some x) (hlast : x.last ≤ s.len) (key : ByteArray) (hks : key.size ≤ 8) (is : Bool) (val : ByteArray) (hf : WFree s t key val) :
    Calls Tryz.prog 42 #[.pointer (some ⟨a, 0, none⟩), .int .i64 t, .string key, .agg #[.bool is, .string val]] w fun e w' => e = .returned (.int .i64 0) ∧ ∃ s1 s', Paged s s1 ∧ Wrote s1 s' t x key is val ∧ Goes w w' s s' ∧ Held s' (q + 1) := by
  have hti : IsInt t := ⟨by omega, by omega⟩
  have hvs := hf.size
  refine (write_over L.lies a L.haw 234 L.ca t key is val (fun c s' => c = 0 ∧ ∃ s1, Paged s s1 ∧ Wrote s1 s' t x key is val ∧ Held s' (q + 1)) ?_).mono ?_
  · intro W b0 b1 b2 b3 hb hbox hd hw
    have hWd : Below w.heap.size w W.drew := hb.drew
    have hnp := not_part L.lies L.hao hw
    have hgd : Goes W W.drew s s := Goes.of_below (L.lies.below hb) L.good (Below.refl _ W).drew
    refine (write1_yes_steal b0 b1 b2 b3 a s.kb t key (by omega) is val (by omega) W (fun w' => ∃ s1, Paged s s1 ∧ Goes W w' s s1) (fun w' => ∃ s', (∃ s1, Paged s s1 ∧ Wrote s1 s' t x key is val ∧ Held s' (q + 1)) ∧ Goes W w' s s') hbox hd ?_ ?_).mono ?_
    · refine (mayWrite_free (L.lies.below hWd) L.good L.held (by omega) t hti key (by omega) is val hf).mono ?_
      rintro e w' ⟨h1, s', h2, h3⟩
      have h4 := hgd.trans h3
      exact ⟨h1, ⟨s', h2, h4⟩, hbox.goes h4 hnp⟩
    · rintro w1 W' ⟨s1, h1, h2⟩ hz hk hb0
      have h3 : Goes W W' s s1 := h2.trans (Goes.of_below h2.lies h2.good ⟨hb0.os, hb0.tape, hb0.output, hz, hk⟩)
      have h1' := h1
      obtain ⟨P, m, rfl, hm⟩ := h1'
      refine (stealWrite_step h3.lies h3.good (h1.held L.held) hq hf.acts hlen t ht x hx hlast key hks is val hvs (fit_of h3.good (h1.cap L.cap) key ((h1.roomy key).2 hf.room) is val)).mono ?_
      rintro e w' ⟨k1, s', k2, k3, k4⟩
      exact ⟨k1, ⟨s', ⟨_, h1, k2, k4⟩, h3.trans k3⟩, hbox.goes (h3.trans k3) hnp⟩
    · rintro e w' ⟨h1, s', h2, h3⟩
      exact ⟨0, s', h1, ⟨rfl, h2⟩, h3⟩
  · rintro e w' ⟨c, s', h1, ⟨rfl, s1, h2, h3, h4⟩, h5⟩
    exact ⟨h1, s1, s', h2, h3, h5, h4⟩

theorem Paged.made {s s' : Sv} (h : Paged s s') {md : TabV} (hm : Made s md) : Made s' md := by
  obtain ⟨P, m, rfl, _⟩ := h
  exact ⟨hm.made, hm.have', hm.lack, hm.cells, hm.num⟩

/-- A write that is done, where it is kept beside the pages. -/
theorem storeWrite_noSteal {w : World} {a : Nat} {s : Sv} {q : Nat} {md : TabV} (L : Live w a 224 s q) (hm : Made s md) (hq : q ≤ 99999) (t : Int) (hti : IsInt t) (x : TxE) (hx : s.tx t = some x) (key : ByteArray) (hks : key.size ≤ 8) (is : Bool) (val : ByteArray) (hf : WFree s t key val) :
    Calls Tryz.prog 42 #[.pointer (some ⟨a, 0, none⟩), .int .i64 t, .string key, .agg #[.bool is, .string val]] w fun e w' => e = .returned (.int .i64 0) ∧ ∃ s1 s', Paged s s1 ∧ WroteBeside s1 s' md t x key is val ∧ Goes w w' s s' ∧ Held s' (q + 1) := by
  have hvs := hf.size
  refine (write_over L.lies a L.haw 224 L.ca t key is val (fun c s' => c = 0 ∧ ∃ s1, Paged s s1 ∧ WroteBeside s1 s' md t x key is val ∧ Held s' (q + 1)) ?_).mono ?_
  · intro W b0 b1 b2 b3 hb hbox hd hw
    have hWd : Below w.heap.size w W.drew := hb.drew
    have hnp := not_part L.lies L.hao hw
    have hgd : Goes W W.drew s s := Goes.of_below (L.lies.below hb) L.good (Below.refl _ W).drew
    refine (write1_yes_noSteal b0 b1 b2 b3 a s.kb t key (by omega) is val (by omega) W (fun w' => ∃ s1, Paged s s1 ∧ Goes W w' s s1) (fun w' => ∃ s', (∃ s1, Paged s s1 ∧ WroteBeside s1 s' md t x key is val ∧ Held s' (q + 1)) ∧ Goes W w' s s') hbox hd ?_ ?_).mono ?_
    · refine (mayWrite_free (L.lies.below hWd) L.good L.held (by omega) t hti key (by omega) is val hf).mono ?_
      rintro e w' ⟨h1, s', h2, h3⟩
      have h4 := hgd.trans h3
      exact ⟨h1, ⟨s', h2, h4⟩, hbox.goes h4 hnp⟩
    · rintro w1 W' ⟨s1, h1, h2⟩ hz hk hb0
      have h3 : Goes W W' s s1 := h2.trans (Goes.of_below h2.lies h2.good ⟨hb0.os, hb0.tape, hb0.output, hz, hk⟩)
      have h1' := h1
      obtain ⟨P, m, rfl, hm'⟩ := h1'
      refine (noStealWrite_step h3.lies h3.good (h1.held L.held) (h1.made hm) hq hf.acts t hti x hx key hks is val hvs).mono ?_
      rintro e w' ⟨k1, s', k2, k3, k4⟩
      exact ⟨k1, ⟨s', ⟨_, h1, k2, k4⟩, h3.trans k3⟩, hbox.goes (h3.trans k3) hnp⟩
    · rintro e w' ⟨h1, s', h2, h3⟩
      exact ⟨0, s', h1, ⟨rfl, h2⟩, h3⟩
  · rintro e w' ⟨c, s', h1, ⟨rfl, s1, h2, h3, h4⟩, h5⟩
    exact ⟨h1, s1, s', h2, h3, h5, h4⟩

set_option maxHeartbeats 400000 in
/-- Put is write with a value. -/
theorem put_of (a : Nat) (t : Int) (key val : ByteArray) (w : World) (R : Int → World → Prop) (K : Calls Tryz.prog 42 #[.pointer (some ⟨a, 0, none⟩), .int .i64 t, .string key, .agg #[.bool true, .string val]] w fun e w' => ∃ c, e = .returned (.int .i64 c) ∧ R c w') :
    Calls Tryz.prog 20 #[.pointer (some ⟨a, 0, none⟩), .int .i64 t, .string key, .string val] w fun e w' => ∃ c, e = .returned (.int .i64 c) ∧ R c w' := by
  have HK := @id (Hid (Calls _ _ _ w _)) K
  clear K
  go_enter Tryz.func20, Tryz.ntmps20
  go_wp2_with (first
    | (go_at_call 42; go_must (refine HK.out.mono ?_; rintro e w' ⟨c, rfl, hr⟩; have HR : Hid (R c w') := hr; clear hr)))
  go_ret
  exact ⟨c, rfl, HR.out⟩

set_option maxHeartbeats 400000 in
/-- Delete is write with nothing. -/
theorem delete_of (a : Nat) (t : Int) (key : ByteArray) (w : World) (R : Int → World → Prop) (K : Calls Tryz.prog 42 #[.pointer (some ⟨a, 0, none⟩), .int .i64 t, .string key, .agg #[.bool false, .string ByteArray.empty]] w fun e w' => ∃ c, e = .returned (.int .i64 c) ∧ R c w') :
    Calls Tryz.prog 24 #[.pointer (some ⟨a, 0, none⟩), .int .i64 t, .string key] w fun e w' => ∃ c, e = .returned (.int .i64 c) ∧ R c w' := by
  have HK := @id (Hid (Calls _ _ _ w _)) K
  clear K
  go_enter Tryz.func24, Tryz.ntmps24
  go_wp2_with (first
    | (go_at_call 42; go_must (refine HK.out.mono ?_; rintro e w' ⟨c, rfl, hr⟩; have HR : Hid (R c w') := hr; clear hr)))
  go_ret
  exact ⟨c, rfl, HR.out⟩
end Go.Proofs.YtihbngfbcnojcaaGreat

namespace Go.Proofs.YtihbngfbcnojcaaGreat
open Go.RowKit

/-- What end has boxed for its function value. -/
structure EndBox (w : World) (c0 c1 c2 a kb : Nat) (k : TypeId) (t : Int) (f : Nat) (cap : Array Value) : Prop where
  h0 : w.cell? ⟨c0, 0, none⟩ = some (.pointer (some ⟨a, 0, none⟩))
  h1 : w.cell? ⟨c1, 0, none⟩ = some (.int .i64 t)
  h2 : w.cell? ⟨c2, 0, none⟩ = some (.func (.func f) #[] cap)
  ca : w.cell? ⟨a, 2, none⟩ = some (.iface k (.pointer (some ⟨kb, 0, none⟩)))
theorem EndBox.below {w w' : World} {c0 c1 c2 a kb : Nat} {k : TypeId} {t : Int} {f : Nat} {cap : Array Value} (h : EndBox w c0 c1 c2 a kb k t f cap) (hb : Below w.heap.size w w') : EndBox w' c0 c1 c2 a kb k t f cap :=
  ⟨(hb.cell (World.block_lt_of_cell? w _ h.h0)).trans h.h0, (hb.cell (World.block_lt_of_cell? w _ h.h1)).trans h.h1, (hb.cell (World.block_lt_of_cell? w _ h.h2)).trans h.h2, (hb.cell (World.block_lt_of_cell? w _ h.ca)).trans h.ca⟩

set_option maxRecDepth 100000 in
set_option maxHeartbeats 2000000 in
theorem end_over {w : World} {s : Sv} (h : Lies w s) (a : Nat) (haw : a < w.heap.size) (k : TypeId) (ca : w.cell? ⟨a, 2, none⟩ = some (.iface k (.pointer (some ⟨s.kb, 0, none⟩)))) (t : Int) (f : Nat) (cap : Array Value) (Q : Int → Sv → Prop)
    (KD : ∀ W c0 c1 c2, Below w.heap.size w W → EndBox W c0 c1 c2 a s.kb k t f cap → Calls Tryz.prog 69 #[.pointer (some ⟨c0, 0, none⟩), .pointer (some ⟨c1, 0, none⟩), .pointer (some ⟨c2, 0, none⟩)] W fun e w' => ∃ x s', e = .returned (.int .i64 x) ∧ Q x s' ∧ Goes W w' s s') :
    Calls Tryz.prog 43 #[.pointer (some ⟨a, 0, none⟩), .int .i64 t, .func (.func f) #[] cap] w fun e w' => ∃ x s', e = .returned (.int .i64 x) ∧ Q x s' ∧ Goes w w' s s' := by
  obtain ⟨W3, hW3⟩ : ∃ W3, W3 = ((w.alloc (.cells #[.pointer (some ⟨a, 0, none⟩)] 26)).alloc (.cells #[.int .i64 t] 3)).alloc (.cells #[.func (.func f) #[] cap] 1) := ⟨_, rfl⟩
  have hz : W3.heap.size = w.heap.size + 3 := by rw [hW3]; simp
  have hb3 : Below w.heap.size w W3 := by rw [hW3]; exact (((Below.refl _ w).alloc (Nat.le_refl _) _).alloc (by simp) _).alloc (by simp; omega) _
  have g0 : W3.heap[w.heap.size]? = some (.cells #[.pointer (some ⟨a, 0, none⟩)] 26 (0, 0)) := by
    rw [hW3, Below.heap_alloc _ _ _ (by simp; omega), Below.heap_alloc _ _ _ (by simp)]; exact heap_alloc_new _ _
  have g1 : W3.heap[w.heap.size + 1]? = some (.cells #[.int .i64 t] 3 (0, 0)) := by
    rw [hW3, Below.heap_alloc _ _ _ (by simp)]; simpa using heap_alloc_new (w.alloc (.cells #[.pointer (some ⟨a, 0, none⟩)] 26)) _
  have g2 : W3.heap[w.heap.size + 2]? = some (.cells #[.func (.func f) #[] cap] 1 (0, 0)) := by
    rw [hW3]; simpa using heap_alloc_new ((w.alloc (.cells #[.pointer (some ⟨a, 0, none⟩)] 26)).alloc (.cells #[.int .i64 t] 3)) _
  have ca3 : W3.cell? ⟨a, 2, none⟩ = some (.iface k (.pointer (some ⟨s.kb, 0, none⟩))) := (hb3.cell haw).trans ca
  have KA : Hid (Calls Tryz.prog 53 #[.pointer (some ⟨a, 0, none⟩), .func (.func 69) #[] #[.pointer (some ⟨w.heap.size, 0, none⟩), .pointer (some ⟨w.heap.size + 1, 0, none⟩), .pointer (some ⟨w.heap.size + 2, 0, none⟩)]] W3 fun e w' => ∃ x s', e = .returned (.int .i64 x) ∧ Q x s' ∧ Goes w w' s s') := by
    refine (alive_quiet a k _ 69 _ W3 (fun x w' => ∃ W s', Below w.heap.size w W ∧ W.heap.size = W3.heap.size + 2 ∧ Q x s' ∧ Goes W w' s s') ca3 ?_ (fun args w => rfl)).mono ?_
    · intro o1 o2
      have hb5 : Below W3.heap.size W3 (W3.alloc o1) := (Below.refl _ W3).alloc (Nat.le_refl _) _
      have hb6 : Below W3.heap.size W3 ((W3.alloc o1).alloc o2) := hb5.alloc (by simp) _
      have hbw : Below w.heap.size w ((W3.alloc o1).alloc o2) := hb3.trans (hb6.mono (by omega))
      have hbox : EndBox ((W3.alloc o1).alloc o2) w.heap.size (w.heap.size + 1) (w.heap.size + 2) a s.kb k t f cap :=
        EndBox.below ⟨cell_at (j := 0) g0 rfl, cell_at (j := 0) g1 rfl, cell_at (j := 0) g2 rfl, ca3⟩ hb6
      refine (KD _ _ _ _ hbw hbox).mono ?_
      rintro e w' ⟨x, s', rfl, h1, h2⟩
      refine ⟨x, rfl, ?_, _, s', hbw, by simp, h1, h2⟩
      exact ((h2.own h (q := W3.heap.size + 1) (by omega) (by simp)).1).trans (by simpa using heap_alloc_new (W3.alloc o1) o2)
    · rintro e w' ⟨x, w1, rfl, ⟨W, s', h1, h2, h3, h4⟩, rfl⟩
      refine ⟨x, s', rfl, h3, Goes.wrap h h1 h4 (fun q _ hq => ?_) ((Below.refl _ _).setCell (p := ⟨W3.heap.size + 1, 0, none⟩) (by simp) _)⟩
      exact Below.heap_setCell _ _ _ _ (by show q ≠ W3.heap.size + 1; omega)
  clear KD h ca ca3 g0 g1 g2 hb3
  have hmf : ∀ (fn : Fn) (first cap : Array Value) (w : World), (Instr.makeFunc fn first cap).run Tryz.prog w = .ok (.func fn first cap) w := fun _ _ _ _ => rfl
  subst hW3
  generalize Goes w = GO at KA ⊢
  go_enter Tryz.func43, Tryz.ntmps43
  go_wp2_with (first
    | (go_at_call 53; go_must (
        refine KA.out.mono ?_
        rintro e w1 ⟨x, s', rfl, h1, h2⟩
        have HX : Hid (Q x s' ∧ GO w1 s s') := ⟨h1, h2⟩
        clear h1 h2)))
  go_ret
  exact ⟨x, s', rfl, HX.out⟩

theorem mayEnd_at {W : World} {s : Sv} (h : Lies W s) (g : Good s) (t : Int) (ht : IsInt t) (c : Int) (hc : c = if (s.tx t).isSome then 0 else 5) : ∀ W', W'.heap = W.heap → Calls Tryz.prog 278 #[.pointer (some ⟨s.kb, 0, none⟩), .int .i64 t] W' fun e w' => e = .returned (.int .i64 c) ∧ W' = w' := fun W' hW => by
  rw [hc]
  exact mayEnd_step (h.frame (fun tag k _ => by rw [hW]) (by rw [hW]; exact Nat.le_refl _)) g t ht

/-- The end of a transaction that is not open. -/
theorem storeEnd_no {w : World} {a : Nat} {s : Sv} {q : Nat} (k : Bool) (L : Live w a (kindT k) s q) (t : Int) (ht : IsInt t) (hx : s.tx t = none) (f : Nat) (cap : Array Value) :
    Calls Tryz.prog 43 #[.pointer (some ⟨a, 0, none⟩), .int .i64 t, .func (.func f) #[] cap] w fun e w' => e = .returned (.int .i64 5) ∧ Goes w w' s s := by
  refine (end_over L.lies a L.haw (kindT k) L.ca t f cap (fun x s' => x = 5 ∧ s' = s) ?_).mono ?_
  · intro W c0 c1 c2 hb hbox
    have KM := mayEnd_at (L.lies.below hb) L.good t ht 5 (by rw [hx]; rfl)
    cases k with
    | true =>
      refine (end1_no_steal c0 c1 c2 a s.kb t W hbox.h0 hbox.h1 hbox.ca KM).mono ?_
      rintro e w' ⟨h1, h2⟩
      exact ⟨5, s, h1, ⟨rfl, rfl⟩, Goes.of_below (L.lies.below hb) L.good h2⟩
    | false =>
      refine (end1_no_noSteal c0 c1 c2 a s.kb t W hbox.h0 hbox.h1 hbox.ca KM).mono ?_
      rintro e w' ⟨h1, h2⟩
      exact ⟨5, s, h1, ⟨rfl, rfl⟩, Goes.of_below (L.lies.below hb) L.good h2⟩
  · rintro e w' ⟨x, s', h1, ⟨rfl, rfl⟩, h2⟩
    exact ⟨h1, h2⟩

/-- The end of one that is. -/
theorem storeEnd_yes {w : World} {a : Nat} {s : Sv} {q : Nat} (k : Bool) (L : Live w a (kindT k) s q) (t : Int) (ht : IsInt t) (x : TxE) (hx : s.tx t = some x) (f : Nat) (cap : Array Value) (Q : Sv → Prop)
    (KH : ∀ W, Below w.heap.size w W → Calls Tryz.prog f cap W fun e w' => e = .returned (.tuple #[]) ∧ ∃ s', Q s' ∧ Goes W w' s s') (hen : ∀ args w, (callFunc f args).run Tryz.prog w = .ok (.enter f args) w) :
    Calls Tryz.prog 43 #[.pointer (some ⟨a, 0, none⟩), .int .i64 t, .func (.func f) #[] cap] w fun e w' => e = .returned (.int .i64 0) ∧ ∃ s', Q s' ∧ Goes w w' s s' := by
  refine (end_over L.lies a L.haw (kindT k) L.ca t f cap (fun x s' => x = 0 ∧ Q s') ?_).mono ?_
  · intro W c0 c1 c2 hb hbox
    have KM := mayEnd_at (L.lies.below hb) L.good t ht 0 (by rw [hx]; rfl)
    have hgd : Goes W W.drew s s := Goes.of_below (L.lies.below hb) L.good (Below.refl _ W).drew
    have KH' := (KH W.drew hb.drew).mono (R' := fun e w' => e = .returned (.tuple #[]) ∧ ∃ s', Q s' ∧ Goes W w' s s') (by
      rintro e w' ⟨h1, s', h2, h3⟩
      exact ⟨h1, s', h2, hgd.trans h3⟩)
    cases k with
    | true =>
      refine (end1_yes_steal c0 c1 c2 a s.kb f cap t W _ hbox.h0 hbox.h1 hbox.h2 hbox.ca KM KH' hen).mono ?_
      rintro e w' ⟨h1, s', h2, h3⟩
      exact ⟨0, s', h1, ⟨rfl, h2⟩, h3⟩
    | false =>
      refine (end1_yes_noSteal c0 c1 c2 a s.kb f cap t W _ hbox.h0 hbox.h1 hbox.h2 hbox.ca KM KH' hen).mono ?_
      rintro e w' ⟨h1, s', h2, h3⟩
      exact ⟨0, s', h1, ⟨rfl, h2⟩, h3⟩
  · rintro e w' ⟨c, s', h1, ⟨rfl, h2⟩, h3⟩
    exact ⟨h1, s', h2, h3⟩

set_option maxRecDepth 100000 in
set_option maxHeartbeats 1000000 in
/-- What Abort hands to end, over whatever the kind's Abort does. -/
theorem abort1_steal (b0 b1 a kb : Nat) (t : Int) (w : World) (R : World → Prop) (h0 : w.cell? ⟨b0, 0, none⟩ = some (.pointer (some ⟨a, 0, none⟩))) (h1 : w.cell? ⟨b1, 0, none⟩ = some (.int .i64 t)) (ca : w.cell? ⟨a, 2, none⟩ = some (.iface 234 (.pointer (some ⟨kb, 0, none⟩))))
    (KC : Calls Tryz.prog 299 #[.pointer (some ⟨kb, 0, none⟩), .int .i64 t] w.drew fun e w' => e = .returned (.tuple #[]) ∧ R w' ∧ w'.cell? ⟨b0, 0, none⟩ = some (.pointer (some ⟨a, 0, none⟩)) ∧ w'.cell? ⟨b1, 0, none⟩ = some (.int .i64 t) ∧ w'.cell? ⟨a, 2, none⟩ = some (.iface 234 (.pointer (some ⟨kb, 0, none⟩)))) :
    Calls Tryz.prog 46 #[.pointer (some ⟨b0, 0, none⟩), .pointer (some ⟨b1, 0, none⟩)] w fun e w' => e = .returned (.tuple #[]) ∧ R w' := by
  have HKC := @id (Hid (Calls _ _ _ w.drew _)) KC
  have hme := meth_abort_steal
  clear KC
  go_enter Tryz.func46, Tryz.ntmps46
  go_region_held3 (fun w' => w'.cell? ⟨b0, 0, none⟩ = some (.pointer (some ⟨a, 0, none⟩)) ∧ w'.cell? ⟨b1, 0, none⟩ = some (.int .i64 t) ∧ w'.cell? ⟨a, 2, none⟩ = some (.iface 234 (.pointer (some ⟨kb, 0, none⟩))))
    (go_keep)
    (first
      | (go_at_call 299; go_must (
          refine HKC.out.mono ?_
          rintro e w1 ⟨rfl, hr, k0, k1, k2⟩
          have HR : Hid (R w1) := hr
          clear hr)))
  all_goals
    go_wp2
    go_end0
    exact ⟨rfl, HR.out⟩

set_option maxRecDepth 100000 in
set_option maxHeartbeats 1000000 in
/-- What Abort hands to end, over whatever the kind's Abort does. -/
theorem abort1_noSteal (b0 b1 a kb : Nat) (t : Int) (w : World) (R : World → Prop) (h0 : w.cell? ⟨b0, 0, none⟩ = some (.pointer (some ⟨a, 0, none⟩))) (h1 : w.cell? ⟨b1, 0, none⟩ = some (.int .i64 t)) (ca : w.cell? ⟨a, 2, none⟩ = some (.iface 224 (.pointer (some ⟨kb, 0, none⟩))))
    (KC : Calls Tryz.prog 272 #[.pointer (some ⟨kb, 0, none⟩), .int .i64 t] w.drew fun e w' => e = .returned (.tuple #[]) ∧ R w' ∧ w'.cell? ⟨b0, 0, none⟩ = some (.pointer (some ⟨a, 0, none⟩)) ∧ w'.cell? ⟨b1, 0, none⟩ = some (.int .i64 t) ∧ w'.cell? ⟨a, 2, none⟩ = some (.iface 224 (.pointer (some ⟨kb, 0, none⟩)))) :
    Calls Tryz.prog 46 #[.pointer (some ⟨b0, 0, none⟩), .pointer (some ⟨b1, 0, none⟩)] w fun e w' => e = .returned (.tuple #[]) ∧ R w' := by
  have HKC := @id (Hid (Calls _ _ _ w.drew _)) KC
  have hme := meth_abort_noSteal
  clear KC
  go_enter Tryz.func46, Tryz.ntmps46
  go_region_held3 (fun w' => w'.cell? ⟨b0, 0, none⟩ = some (.pointer (some ⟨a, 0, none⟩)) ∧ w'.cell? ⟨b1, 0, none⟩ = some (.int .i64 t) ∧ w'.cell? ⟨a, 2, none⟩ = some (.iface 224 (.pointer (some ⟨kb, 0, none⟩))))
    (go_keep)
    (first
      | (go_at_call 272; go_must (
          refine HKC.out.mono ?_
          rintro e w1 ⟨rfl, hr, k0, k1, k2⟩
          have HR : Hid (R w1) := hr
          clear hr)))
  all_goals
    go_wp2
    go_end0
    exact ⟨rfl, HR.out⟩

set_option maxRecDepth 100000 in
set_option maxHeartbeats 2000000 in
/-- Commit boxes and calls end. -/
theorem commit_over {w : World} {s : Sv} (h : Lies w s) (a : Nat) (t : Int) (Q : Int → Sv → Prop)
    (KE : ∀ W, Below w.heap.size w W → W.cell? ⟨w.heap.size, 0, none⟩ = some (.pointer (some ⟨a, 0, none⟩)) → W.cell? ⟨w.heap.size + 1, 0, none⟩ = some (.int .i64 t) → Calls Tryz.prog 43 #[.pointer (some ⟨a, 0, none⟩), .int .i64 t, .func (.func 44) #[] #[.pointer (some ⟨w.heap.size, 0, none⟩), .pointer (some ⟨w.heap.size + 1, 0, none⟩)]] W fun e w' => ∃ x s', e = .returned (.int .i64 x) ∧ Q x s' ∧ Goes W w' s s') :
    Calls Tryz.prog 21 #[.pointer (some ⟨a, 0, none⟩), .int .i64 t] w fun e w' => ∃ x s', e = .returned (.int .i64 x) ∧ Q x s' ∧ Goes w w' s s' := by
  obtain ⟨W2, hW2⟩ : ∃ W2, W2 = (w.alloc (.cells #[.pointer (some ⟨a, 0, none⟩)] 26)).alloc (.cells #[.int .i64 t] 3) := ⟨_, rfl⟩
  have hb2 : Below w.heap.size w W2 := by rw [hW2]; exact ((Below.refl _ w).alloc (Nat.le_refl _) _).alloc (by simp) _
  have g0 : W2.heap[w.heap.size]? = some (.cells #[.pointer (some ⟨a, 0, none⟩)] 26 (0, 0)) := by
    rw [hW2, Below.heap_alloc _ _ _ (by simp)]; exact heap_alloc_new _ _
  have g1 : W2.heap[w.heap.size + 1]? = some (.cells #[.int .i64 t] 3 (0, 0)) := by
    rw [hW2]; simpa using heap_alloc_new (w.alloc (.cells #[.pointer (some ⟨a, 0, none⟩)] 26)) _
  have KA : Hid (Calls Tryz.prog 43 #[.pointer (some ⟨a, 0, none⟩), .int .i64 t, .func (.func 44) #[] #[.pointer (some ⟨w.heap.size, 0, none⟩), .pointer (some ⟨w.heap.size + 1, 0, none⟩)]] W2 fun e w' => ∃ x s', e = .returned (.int .i64 x) ∧ Q x s' ∧ Goes w w' s s') := by
    refine (KE W2 hb2 (cell_at (j := 0) g0 rfl) (cell_at (j := 0) g1 rfl)).mono ?_
    rintro e w' ⟨x, s', h1, h2, h3⟩
    exact ⟨x, s', h1, h2, Goes.wrap h hb2 h3 (fun _ _ _ => rfl) (Below.refl _ _)⟩
  clear KE h g0 g1 hb2
  have hmf : ∀ (fn : Fn) (first cap : Array Value) (w : World), (Instr.makeFunc fn first cap).run Tryz.prog w = .ok (.func fn first cap) w := fun _ _ _ _ => rfl
  subst hW2
  generalize Goes w = GO at KA ⊢
  go_enter Tryz.func21, Tryz.ntmps21
  go_wp2_with (first
    | (go_at_call 43; go_must (
        refine KA.out.mono ?_
        rintro e w1 ⟨x, s', rfl, h1, h2⟩
        have HX : Hid (Q x s' ∧ GO w1 s s') := ⟨h1, h2⟩
        clear h1 h2)))
  go_ret
  exact ⟨x, s', rfl, HX.out⟩

/-- Commit of a transaction that is not open. -/
theorem storeCommit_no {w : World} {a : Nat} {s : Sv} {q : Nat} (k : Bool) (L : Live w a (kindT k) s q) (t : Int) (ht : IsInt t) (hx : s.tx t = none) :
    Calls Tryz.prog 21 #[.pointer (some ⟨a, 0, none⟩), .int .i64 t] w fun e w' => e = .returned (.int .i64 5) ∧ Goes w w' s s := by
  refine (commit_over L.lies a t (fun x s' => x = 5 ∧ s' = s) ?_).mono ?_
  · intro W hb h0 h1
    have LW : Live W a (kindT k) s q := L.go (Goes.of_below L.lies L.good hb) L.held L.cap rfl
    refine (storeEnd_no k LW t ht hx _ _).mono ?_
    rintro e w' ⟨k1, k2⟩
    exact ⟨5, s, k1, ⟨rfl, rfl⟩, k2⟩
  · rintro e w' ⟨x, s', h1, ⟨rfl, rfl⟩, h2⟩
    exact ⟨h1, h2⟩

set_option maxRecDepth 100000 in
/-- Commit of one that is, over whatever the kind's Commit does. -/
theorem storeCommit_steal {w : World} {a : Nat} {s : Sv} {q : Nat} (L : Live w a 234 s q) (t : Int) (ht : IsInt t) (x : TxE) (hx : s.tx t = some x) (Q : Sv → Prop)
    (KC : ∀ W, Lies W s → Calls Tryz.prog 300 #[.pointer (some ⟨s.kb, 0, none⟩), .int .i64 t] W fun e w' => e = .returned (.tuple #[]) ∧ ∃ s', Q s' ∧ Goes W w' s s') :
    Calls Tryz.prog 21 #[.pointer (some ⟨a, 0, none⟩), .int .i64 t] w fun e w' => e = .returned (.int .i64 0) ∧ ∃ s', Q s' ∧ Goes w w' s s' := by
  refine (commit_over L.lies a t (fun x s' => x = 0 ∧ Q s') ?_).mono ?_
  · intro W hb h0 h1
    have LW : Live W a (kindT true) s q := L.go (Goes.of_below L.lies L.good hb) L.held L.cap rfl
    have hs0 := World.block_lt_of_cell? W _ h0
    have hs1 := World.block_lt_of_cell? W _ h1
    simp only at hs0 hs1
    refine (storeEnd_yes true LW t ht x hx _ _ Q ?_ (fun args w => rfl)).mono ?_
    · intro W' hb'
      have hgd : Goes W' W'.drew s s := Goes.of_below (LW.lies.below hb') L.good (Below.refl _ W').drew
      have hg0 : Goes W W' s s := Goes.of_below LW.lies L.good hb'
      refine commit1_steal w.heap.size (w.heap.size + 1) a s.kb t W' _ ((hb'.cell (p := ⟨w.heap.size, 0, none⟩) hs0).trans h0) ((hb'.cell (p := ⟨w.heap.size + 1, 0, none⟩) hs1).trans h1) ((hb'.cell (p := ⟨a, 2, none⟩) LW.haw).trans LW.ca) ?_
      refine (KC W'.drew (LW.lies.below hb'.drew)).mono ?_
      rintro e w' ⟨k1, s', k2, k3⟩
      have k4 := hgd.trans k3
      have hsz := hb'.size
      exact ⟨k1, ⟨s', k2, k4⟩, (World.cell?_of_block (k4.off w.heap.size (by omega) (fun tag ht => by have := L.lies.lt tag _ ht; omega))).trans ((hb'.cell (p := ⟨w.heap.size, 0, none⟩) hs0).trans h0), (World.cell?_of_block (k4.off (w.heap.size + 1) (by omega) (fun tag ht => by have := L.lies.lt tag _ ht; omega))).trans ((hb'.cell (p := ⟨w.heap.size + 1, 0, none⟩) hs1).trans h1),
        (World.cell?_of_block (k4.off a (by have := LW.haw; omega) L.hao)).trans ((hb'.cell (p := ⟨a, 2, none⟩) LW.haw).trans LW.ca)⟩
    · rintro e w' ⟨k1, s', k2, k3⟩
      exact ⟨0, s', k1, ⟨rfl, k2⟩, k3⟩
  · rintro e w' ⟨c, s', h1, ⟨rfl, h2⟩, h3⟩
    exact ⟨h1, s', h2, h3⟩

set_option maxRecDepth 100000 in
/-- Commit of one that is, over whatever the kind's Commit does. -/
theorem storeCommit_noSteal {w : World} {a : Nat} {s : Sv} {q : Nat} (L : Live w a 224 s q) (t : Int) (ht : IsInt t) (x : TxE) (hx : s.tx t = some x) (Q : Sv → Prop)
    (KC : ∀ W, Lies W s → Calls Tryz.prog 275 #[.pointer (some ⟨s.kb, 0, none⟩), .int .i64 t] W fun e w' => e = .returned (.tuple #[]) ∧ ∃ s', Q s' ∧ Goes W w' s s') :
    Calls Tryz.prog 21 #[.pointer (some ⟨a, 0, none⟩), .int .i64 t] w fun e w' => e = .returned (.int .i64 0) ∧ ∃ s', Q s' ∧ Goes w w' s s' := by
  refine (commit_over L.lies a t (fun x s' => x = 0 ∧ Q s') ?_).mono ?_
  · intro W hb h0 h1
    have LW : Live W a (kindT false) s q := L.go (Goes.of_below L.lies L.good hb) L.held L.cap rfl
    have hs0 := World.block_lt_of_cell? W _ h0
    have hs1 := World.block_lt_of_cell? W _ h1
    simp only at hs0 hs1
    refine (storeEnd_yes false LW t ht x hx _ _ Q ?_ (fun args w => rfl)).mono ?_
    · intro W' hb'
      have hgd : Goes W' W'.drew s s := Goes.of_below (LW.lies.below hb') L.good (Below.refl _ W').drew
      have hg0 : Goes W W' s s := Goes.of_below LW.lies L.good hb'
      refine commit1_noSteal w.heap.size (w.heap.size + 1) a s.kb t W' _ ((hb'.cell (p := ⟨w.heap.size, 0, none⟩) hs0).trans h0) ((hb'.cell (p := ⟨w.heap.size + 1, 0, none⟩) hs1).trans h1) ((hb'.cell (p := ⟨a, 2, none⟩) LW.haw).trans LW.ca) ?_
      refine (KC W'.drew (LW.lies.below hb'.drew)).mono ?_
      rintro e w' ⟨k1, s', k2, k3⟩
      have k4 := hgd.trans k3
      have hsz := hb'.size
      exact ⟨k1, ⟨s', k2, k4⟩, (World.cell?_of_block (k4.off w.heap.size (by omega) (fun tag ht => by have := L.lies.lt tag _ ht; omega))).trans ((hb'.cell (p := ⟨w.heap.size, 0, none⟩) hs0).trans h0), (World.cell?_of_block (k4.off (w.heap.size + 1) (by omega) (fun tag ht => by have := L.lies.lt tag _ ht; omega))).trans ((hb'.cell (p := ⟨w.heap.size + 1, 0, none⟩) hs1).trans h1),
        (World.cell?_of_block (k4.off a (by have := LW.haw; omega) L.hao)).trans ((hb'.cell (p := ⟨a, 2, none⟩) LW.haw).trans LW.ca)⟩
    · rintro e w' ⟨k1, s', k2, k3⟩
      exact ⟨0, s', k1, ⟨rfl, k2⟩, k3⟩
  · rintro e w' ⟨c, s', h1, ⟨rfl, h2⟩, h3⟩
    exact ⟨h1, s', h2, h3⟩

set_option maxRecDepth 100000 in
set_option maxHeartbeats 2000000 in
/-- Abort boxes and calls end. -/
theorem abort_over {w : World} {s : Sv} (h : Lies w s) (a : Nat) (t : Int) (Q : Int → Sv → Prop)
    (KE : ∀ W, Below w.heap.size w W → W.cell? ⟨w.heap.size, 0, none⟩ = some (.pointer (some ⟨a, 0, none⟩)) → W.cell? ⟨w.heap.size + 1, 0, none⟩ = some (.int .i64 t) → Calls Tryz.prog 43 #[.pointer (some ⟨a, 0, none⟩), .int .i64 t, .func (.func 46) #[] #[.pointer (some ⟨w.heap.size, 0, none⟩), .pointer (some ⟨w.heap.size + 1, 0, none⟩)]] W fun e w' => ∃ x s', e = .returned (.int .i64 x) ∧ Q x s' ∧ Goes W w' s s') :
    Calls Tryz.prog 25 #[.pointer (some ⟨a, 0, none⟩), .int .i64 t] w fun e w' => ∃ x s', e = .returned (.int .i64 x) ∧ Q x s' ∧ Goes w w' s s' := by
  obtain ⟨W2, hW2⟩ : ∃ W2, W2 = (w.alloc (.cells #[.pointer (some ⟨a, 0, none⟩)] 26)).alloc (.cells #[.int .i64 t] 3) := ⟨_, rfl⟩
  have hb2 : Below w.heap.size w W2 := by rw [hW2]; exact ((Below.refl _ w).alloc (Nat.le_refl _) _).alloc (by simp) _
  have g0 : W2.heap[w.heap.size]? = some (.cells #[.pointer (some ⟨a, 0, none⟩)] 26 (0, 0)) := by
    rw [hW2, Below.heap_alloc _ _ _ (by simp)]; exact heap_alloc_new _ _
  have g1 : W2.heap[w.heap.size + 1]? = some (.cells #[.int .i64 t] 3 (0, 0)) := by
    rw [hW2]; simpa using heap_alloc_new (w.alloc (.cells #[.pointer (some ⟨a, 0, none⟩)] 26)) _
  have KA : Hid (Calls Tryz.prog 43 #[.pointer (some ⟨a, 0, none⟩), .int .i64 t, .func (.func 46) #[] #[.pointer (some ⟨w.heap.size, 0, none⟩), .pointer (some ⟨w.heap.size + 1, 0, none⟩)]] W2 fun e w' => ∃ x s', e = .returned (.int .i64 x) ∧ Q x s' ∧ Goes w w' s s') := by
    refine (KE W2 hb2 (cell_at (j := 0) g0 rfl) (cell_at (j := 0) g1 rfl)).mono ?_
    rintro e w' ⟨x, s', h1, h2, h3⟩
    exact ⟨x, s', h1, h2, Goes.wrap h hb2 h3 (fun _ _ _ => rfl) (Below.refl _ _)⟩
  clear KE h g0 g1 hb2
  have hmf : ∀ (fn : Fn) (first cap : Array Value) (w : World), (Instr.makeFunc fn first cap).run Tryz.prog w = .ok (.func fn first cap) w := fun _ _ _ _ => rfl
  subst hW2
  generalize Goes w = GO at KA ⊢
  go_enter Tryz.func25, Tryz.ntmps25
  go_wp2_with (first
    | (go_at_call 43; go_must (
        refine KA.out.mono ?_
        rintro e w1 ⟨x, s', rfl, h1, h2⟩
        have HX : Hid (Q x s' ∧ GO w1 s s') := ⟨h1, h2⟩
        clear h1 h2)))
  go_ret
  exact ⟨x, s', rfl, HX.out⟩

/-- Abort of a transaction that is not open. -/
theorem storeAbort_no {w : World} {a : Nat} {s : Sv} {q : Nat} (k : Bool) (L : Live w a (kindT k) s q) (t : Int) (ht : IsInt t) (hx : s.tx t = none) :
    Calls Tryz.prog 25 #[.pointer (some ⟨a, 0, none⟩), .int .i64 t] w fun e w' => e = .returned (.int .i64 5) ∧ Goes w w' s s := by
  refine (abort_over L.lies a t (fun x s' => x = 5 ∧ s' = s) ?_).mono ?_
  · intro W hb h0 h1
    have LW : Live W a (kindT k) s q := L.go (Goes.of_below L.lies L.good hb) L.held L.cap rfl
    refine (storeEnd_no k LW t ht hx _ _).mono ?_
    rintro e w' ⟨k1, k2⟩
    exact ⟨5, s, k1, ⟨rfl, rfl⟩, k2⟩
  · rintro e w' ⟨x, s', h1, ⟨rfl, rfl⟩, h2⟩
    exact ⟨h1, h2⟩

set_option maxRecDepth 100000 in
/-- Abort of one that is, over whatever the kind's Abort does. -/
theorem storeAbort_steal {w : World} {a : Nat} {s : Sv} {q : Nat} (L : Live w a 234 s q) (t : Int) (ht : IsInt t) (x : TxE) (hx : s.tx t = some x) (Q : Sv → Prop)
    (KC : ∀ W, Lies W s → Calls Tryz.prog 299 #[.pointer (some ⟨s.kb, 0, none⟩), .int .i64 t] W fun e w' => e = .returned (.tuple #[]) ∧ ∃ s', Q s' ∧ Goes W w' s s') :
    Calls Tryz.prog 25 #[.pointer (some ⟨a, 0, none⟩), .int .i64 t] w fun e w' => e = .returned (.int .i64 0) ∧ ∃ s', Q s' ∧ Goes w w' s s' := by
  refine (abort_over L.lies a t (fun x s' => x = 0 ∧ Q s') ?_).mono ?_
  · intro W hb h0 h1
    have LW : Live W a (kindT true) s q := L.go (Goes.of_below L.lies L.good hb) L.held L.cap rfl
    have hs0 := World.block_lt_of_cell? W _ h0
    have hs1 := World.block_lt_of_cell? W _ h1
    simp only at hs0 hs1
    refine (storeEnd_yes true LW t ht x hx _ _ Q ?_ (fun args w => rfl)).mono ?_
    · intro W' hb'
      have hgd : Goes W' W'.drew s s := Goes.of_below (LW.lies.below hb') L.good (Below.refl _ W').drew
      have hg0 : Goes W W' s s := Goes.of_below LW.lies L.good hb'
      refine abort1_steal w.heap.size (w.heap.size + 1) a s.kb t W' _ ((hb'.cell (p := ⟨w.heap.size, 0, none⟩) hs0).trans h0) ((hb'.cell (p := ⟨w.heap.size + 1, 0, none⟩) hs1).trans h1) ((hb'.cell (p := ⟨a, 2, none⟩) LW.haw).trans LW.ca) ?_
      refine (KC W'.drew (LW.lies.below hb'.drew)).mono ?_
      rintro e w' ⟨k1, s', k2, k3⟩
      have k4 := hgd.trans k3
      have hsz := hb'.size
      exact ⟨k1, ⟨s', k2, k4⟩, (World.cell?_of_block (k4.off w.heap.size (by omega) (fun tag ht => by have := L.lies.lt tag _ ht; omega))).trans ((hb'.cell (p := ⟨w.heap.size, 0, none⟩) hs0).trans h0), (World.cell?_of_block (k4.off (w.heap.size + 1) (by omega) (fun tag ht => by have := L.lies.lt tag _ ht; omega))).trans ((hb'.cell (p := ⟨w.heap.size + 1, 0, none⟩) hs1).trans h1),
        (World.cell?_of_block (k4.off a (by have := LW.haw; omega) L.hao)).trans ((hb'.cell (p := ⟨a, 2, none⟩) LW.haw).trans LW.ca)⟩
    · rintro e w' ⟨k1, s', k2, k3⟩
      exact ⟨0, s', k1, ⟨rfl, k2⟩, k3⟩
  · rintro e w' ⟨c, s', h1, ⟨rfl, h2⟩, h3⟩
    exact ⟨h1, s', h2, h3⟩

set_option maxRecDepth 100000 in
/-- Abort of one that is, over whatever the kind's Abort does. -/
theorem storeAbort_noSteal {w : World} {a : Nat} {s : Sv} {q : Nat} (L : Live w a 224 s q) (t : Int) (ht : IsInt t) (x : TxE) (hx : s.tx t = some x) (Q : Sv → Prop)
    (KC : ∀ W, Lies W s → Calls Tryz.prog 272 #[.pointer (some ⟨s.kb, 0, none⟩), .int .i64 t] W fun e w' => e = .returned (.tuple #[]) ∧ ∃ s', Q s' ∧ Goes W w' s s') :
    Calls Tryz.prog 25 #[.pointer (some ⟨a, 0, none⟩), .int .i64 t] w fun e w' => e = .returned (.int .i64 0) ∧ ∃ s', Q s' ∧ Goes w w' s s' := by
  refine (abort_over L.lies a t (fun x s' => x = 0 ∧ Q s') ?_).mono ?_
  · intro W hb h0 h1
    have LW : Live W a (kindT false) s q := L.go (Goes.of_below L.lies L.good hb) L.held L.cap rfl
    have hs0 := World.block_lt_of_cell? W _ h0
    have hs1 := World.block_lt_of_cell? W _ h1
    simp only at hs0 hs1
    refine (storeEnd_yes false LW t ht x hx _ _ Q ?_ (fun args w => rfl)).mono ?_
    · intro W' hb'
      have hgd : Goes W' W'.drew s s := Goes.of_below (LW.lies.below hb') L.good (Below.refl _ W').drew
      have hg0 : Goes W W' s s := Goes.of_below LW.lies L.good hb'
      refine abort1_noSteal w.heap.size (w.heap.size + 1) a s.kb t W' _ ((hb'.cell (p := ⟨w.heap.size, 0, none⟩) hs0).trans h0) ((hb'.cell (p := ⟨w.heap.size + 1, 0, none⟩) hs1).trans h1) ((hb'.cell (p := ⟨a, 2, none⟩) LW.haw).trans LW.ca) ?_
      refine (KC W'.drew (LW.lies.below hb'.drew)).mono ?_
      rintro e w' ⟨k1, s', k2, k3⟩
      have k4 := hgd.trans k3
      have hsz := hb'.size
      exact ⟨k1, ⟨s', k2, k4⟩, (World.cell?_of_block (k4.off w.heap.size (by omega) (fun tag ht => by have := L.lies.lt tag _ ht; omega))).trans ((hb'.cell (p := ⟨w.heap.size, 0, none⟩) hs0).trans h0), (World.cell?_of_block (k4.off (w.heap.size + 1) (by omega) (fun tag ht => by have := L.lies.lt tag _ ht; omega))).trans ((hb'.cell (p := ⟨w.heap.size + 1, 0, none⟩) hs1).trans h1),
        (World.cell?_of_block (k4.off a (by have := LW.haw; omega) L.hao)).trans ((hb'.cell (p := ⟨a, 2, none⟩) LW.haw).trans LW.ca)⟩
    · rintro e w' ⟨k1, s', k2, k3⟩
      exact ⟨0, s', k1, ⟨rfl, k2⟩, k3⟩
  · rintro e w' ⟨c, s', h1, ⟨rfl, h2⟩, h3⟩
    exact ⟨h1, s', h2, h3⟩
end Go.Proofs.YtihbngfbcnojcaaGreat

namespace Go.Proofs.YtihbngfbcnojcaaGreat
open Go.RowKit Go.Maps Go.Sort Go.Shelf

def keysRen : Go.Shelf.Ren := ⟨fun | 7 => 110 | 10 => 156 | n => n, fun | 23 => 138 | 26 => 9 | 3 => 38 | 28 => 176 | 0 => 0 | 27 => 175 | 33 => 248 | 4 => 4 | n => n, fun | n => n⟩
theorem keysLay : Go.Proofs.SlLaysZ.n7 Tryz.prog keysRen where
  mixed := by kernel_rfl
  f7 := ⟨Tryz.f110.name, by kernel_rfl, Tryz.func110.trans (congrArg some (by kernel_rfl))⟩
  f10 := ⟨Tryz.f156.name, by kernel_rfl, Tryz.func156.trans (congrArg some (by kernel_rfl))⟩
  t0 := Tryz.underlying0
  a0 := Tryz.isAgg0
  z0 := Tryz.sizeOf0
  v0 := Tryz.zeroValue0
  t4 := Tryz.underlying4
  a4 := Tryz.isAgg4
  z4 := Tryz.sizeOf4
  v4 := Tryz.zeroValue4
  t23 := Tryz.underlying138
  a23 := Tryz.isAgg138
  z23 := Tryz.sizeOf138
  v23 := Tryz.zeroValue138
  t26 := Tryz.underlying9
  a26 := Tryz.isAgg9
  z26 := Tryz.sizeOf9
  v26 := Tryz.zeroValue9
  t27 := Tryz.underlying175
  a27 := Tryz.isAgg175
  z27 := Tryz.sizeOf175
  v27 := Tryz.zeroValue175
  t28 := Tryz.underlying176
  a28 := Tryz.isAgg176
  z28 := Tryz.sizeOf176
  v28 := Tryz.zeroValue176
  t33 := Tryz.underlying248
  a33 := Tryz.isAgg248
  z33 := Tryz.sizeOf248
  v33 := Tryz.zeroValue248
def sortedRen : Go.Shelf.Ren := ⟨fun | 6 => 109 | 8 => 154 | 9 => 155 | 11 => 203 | 13 => 205 | 12 => 204 | 23 => 232 | 24 => 233 | 14 => 223 | 15 => 224 | 16 => 225 | 17 => 226 | 18 => 227 | 19 => 228 | 20 => 229 | 21 => 230 | 22 => 231 | 25 => 245 | 26 => 246 | 27 => 247 | 28 => 248 | 29 => 249 | 30 => 234 | 31 => 255 | n => n, fun | 26 => 9 | 28 => 176 | 24 => 173 | 0 => 0 | 3 => 3 | 37 => 213 | 48 => 124 | 50 => 53 | 4 => 4 | 40 => 316 | 39 => 315 | 45 => 249 | 5 => 5 | 9 => 9 | 51 => 330 | 55 => 333 | 57 => 338 | 58 => 339 | 33 => 248 | n => n, fun | n => n⟩
theorem sortedLay : Go.Proofs.SlLaysZ.n6 Tryz.prog sortedRen where
  mixed := by kernel_rfl
  f6 := ⟨Tryz.f109.name, by kernel_rfl, Tryz.func109.trans (congrArg some (by kernel_rfl))⟩
  f8 := ⟨Tryz.f154.name, by kernel_rfl, Tryz.func154.trans (congrArg some (by kernel_rfl))⟩
  f11 := ⟨Tryz.f203.name, by kernel_rfl, Tryz.func203.trans (congrArg some (by kernel_rfl))⟩
  t0 := Tryz.underlying0
  a0 := Tryz.isAgg0
  z0 := Tryz.sizeOf0
  v0 := Tryz.zeroValue0
  t24 := Tryz.underlying173
  a24 := Tryz.isAgg173
  z24 := Tryz.sizeOf173
  v24 := Tryz.zeroValue173
  t26 := Tryz.underlying9
  a26 := Tryz.isAgg9
  z26 := Tryz.sizeOf9
  v26 := Tryz.zeroValue9
  t28 := Tryz.underlying176
  a28 := Tryz.isAgg176
  z28 := Tryz.sizeOf176
  v28 := Tryz.zeroValue176
  i26 := by kernel_rfl
def sortRen : Go.Shelf.Ren := ⟨fun | 6 => 155 | 8 => 205 | 9 => 204 | 19 => 232 | 20 => 233 | 21 => 223 | 22 => 224 | 23 => 225 | 24 => 226 | 25 => 227 | 26 => 228 | 27 => 229 | 28 => 230 | 29 => 231 | 36 => 245 | 31 => 246 | 32 => 247 | 37 => 248 | 38 => 249 | 39 => 234 | 41 => 255 | n => n, fun | 27 => 173 | 29 => 9 | 3 => 3 | 32 => 213 | 26 => 173 | 0 => 0 | 44 => 124 | 46 => 53 | 4 => 4 | 36 => 316 | 35 => 315 | 41 => 249 | 5 => 5 | 9 => 9 | 53 => 330 | 57 => 333 | 63 => 338 | 64 => 339 | n => n, fun | n => n⟩
theorem sortLay : Go.Proofs.SlLaysM.n6 Tryz.prog sortRen where
  mixed := by kernel_rfl
  f6 := ⟨Tryz.f155.name, by kernel_rfl, Tryz.func155.trans (congrArg some (by kernel_rfl))⟩
  f8 := Tryz.func205.trans (congrArg some (by kernel_rfl))
  f9 := ⟨Tryz.f204.name, by kernel_rfl, Tryz.func204.trans (congrArg some (by kernel_rfl))⟩
  f19 := Tryz.func232.trans (congrArg some (by kernel_rfl))
  f20 := Tryz.func233.trans (congrArg some (by kernel_rfl))
  f21 := ⟨Tryz.f223.name, by kernel_rfl, Tryz.func223.trans (congrArg some (by kernel_rfl))⟩
  f22 := ⟨Tryz.f224.name, by kernel_rfl, Tryz.func224.trans (congrArg some (by kernel_rfl))⟩
  f23 := ⟨Tryz.f225.name, by kernel_rfl, Tryz.func225.trans (congrArg some (by kernel_rfl))⟩
  f24 := ⟨Tryz.f226.name, by kernel_rfl, Tryz.func226.trans (congrArg some (by kernel_rfl))⟩
  f25 := ⟨Tryz.f227.name, by kernel_rfl, Tryz.func227.trans (congrArg some (by kernel_rfl))⟩
  f26 := ⟨Tryz.f228.name, by kernel_rfl, Tryz.func228.trans (congrArg some (by kernel_rfl))⟩
  f27 := ⟨Tryz.f229.name, by kernel_rfl, Tryz.func229.trans (congrArg some (by kernel_rfl))⟩
  f28 := ⟨Tryz.f230.name, by kernel_rfl, Tryz.func230.trans (congrArg some (by kernel_rfl))⟩
  f29 := ⟨Tryz.f231.name, by kernel_rfl, Tryz.func231.trans (congrArg some (by kernel_rfl))⟩
  f31 := Tryz.func246.trans (congrArg some (by kernel_rfl))
  f32 := Tryz.func247.trans (congrArg some (by kernel_rfl))
  f36 := ⟨Tryz.f245.name, by kernel_rfl, Tryz.func245.trans (congrArg some (by kernel_rfl))⟩
  f37 := ⟨Tryz.f248.name, by kernel_rfl, Tryz.func248.trans (congrArg some (by kernel_rfl))⟩
  f38 := ⟨Tryz.f249.name, by kernel_rfl, Tryz.func249.trans (congrArg some (by kernel_rfl))⟩
  f39 := ⟨Tryz.f234.name, by kernel_rfl, Tryz.func234.trans (congrArg some (by kernel_rfl))⟩
  f41 := ⟨Tryz.f255.name, by kernel_rfl, Tryz.func255.trans (congrArg some (by kernel_rfl))⟩
  t0 := Tryz.underlying0
  a0 := Tryz.isAgg0
  z0 := Tryz.sizeOf0
  v0 := Tryz.zeroValue0
  t3 := Tryz.underlying3
  a3 := Tryz.isAgg3
  z3 := Tryz.sizeOf3
  v3 := Tryz.zeroValue3
  t4 := Tryz.underlying4
  a4 := Tryz.isAgg4
  z4 := Tryz.sizeOf4
  v4 := Tryz.zeroValue4
  t5 := Tryz.underlying5
  a5 := Tryz.isAgg5
  z5 := Tryz.sizeOf5
  v5 := Tryz.zeroValue5
  t9 := Tryz.underlying9
  a9 := Tryz.isAgg9
  z9 := Tryz.sizeOf9
  v9 := Tryz.zeroValue9
  t26 := Tryz.underlying173
  a26 := Tryz.isAgg173
  z26 := Tryz.sizeOf173
  v26 := Tryz.zeroValue173
  t27 := Tryz.underlying173
  a27 := Tryz.isAgg173
  z27 := Tryz.sizeOf173
  v27 := Tryz.zeroValue173
  t29 := Tryz.underlying9
  a29 := Tryz.isAgg9
  z29 := Tryz.sizeOf9
  v29 := Tryz.zeroValue9
  t32 := Tryz.underlying213
  a32 := Tryz.isAgg213
  z32 := Tryz.sizeOf213
  v32 := Tryz.zeroValue213
  t35 := Tryz.underlying315
  a35 := Tryz.isAgg315
  z35 := Tryz.sizeOf315
  v35 := Tryz.zeroValue315
  t36 := Tryz.underlying316
  a36 := Tryz.isAgg316
  z36 := Tryz.sizeOf316
  v36 := Tryz.zeroValue316
  t41 := Tryz.underlying249
  a41 := Tryz.isAgg249
  z41 := Tryz.sizeOf249
  v41 := Tryz.zeroValue249
  t44 := Tryz.underlying124
  a44 := Tryz.isAgg124
  z44 := Tryz.sizeOf124
  v44 := Tryz.zeroValue124
  t46 := Tryz.underlying53
  a46 := Tryz.isAgg53
  z46 := Tryz.sizeOf53
  v46 := Tryz.zeroValue53
  t53 := Tryz.underlying330
  a53 := Tryz.isAgg330
  z53 := Tryz.sizeOf330
  v53 := Tryz.zeroValue330
  t57 := Tryz.underlying333
  a57 := Tryz.isAgg333
  z57 := Tryz.sizeOf333
  v57 := Tryz.zeroValue333
  t63 := Tryz.underlying338
  a63 := Tryz.isAgg338
  z63 := Tryz.sizeOf338
  v63 := Tryz.zeroValue338
  t64 := Tryz.underlying339
  a64 := Tryz.isAgg339
  z64 := Tryz.sizeOf339
  v64 := Tryz.zeroValue339

/-- slices.Sort's two contracts, at the fence that asks nothing. -/
theorem sortsAny (m : Nat) : AnyZ.SortsIn Tryz.prog sortedRen Fence.wide m :=
  ⟨fun blk off cap ss W hH hblk hsz => callsIn_wide.2 (AnyM.slices_Sort_string sortLay blk off cap ss W hH hblk hsz),
   fun p cap W => callsIn_wide.2 (AnyM.slices_Sort_string_none sortLay p cap W)⟩

/-- maps.Keys: a function value over a new block that holds the map. -/
theorem mapsKeys_any (mb : Option Nat) (W : World) : Calls Tryz.prog 110 #[.map mb] W fun e w' => e = .returned (.func (.func 156) #[] #[.pointer (some ⟨W.heap.size, 0, none⟩)]) ∧ w' = W.alloc (.cells #[.map mb] 138) :=
  (callsIn_wide (n := 5)).1 (AnyZ.keys_in keysLay Fence.wide 5 trivial rfl mb W)

set_option maxHeartbeats 1000000 in
/-- slices.Sorted of what maps.Keys has handed back: a new slice with the keys, sorted. -/
theorem sortedKeys_any {H : Type} (b nn : Nat) (D0 : DataW H) (R : Value → Option (DataW H × List MemPlace)) (w : World) (hown : w.ownsMap Tryz.prog 9 R b nn D0) (hmax : Maps.size D0 ≤ maxLen) (hbytes : Maps.size D0 * 16 ≤ 140737488355328) :
    Calls Tryz.prog 109 #[.func (.func 156) #[] #[.pointer (some ⟨w.heap.size, 0, none⟩)]] (w.alloc (.cells #[.map (some b)] 138)) fun e w' => ∃ (v : Value) (ss : List (List UInt8)), e = .returned v ∧ ss.Perm (strKeys D0) ∧
      w'.ownsRow (w.alloc (.cells #[.map (some b)] 138)).heap.size 9 1 v ss.length ((ss.mergeSort (fun x y => decide (x ≤ y))).map encStr) ∧ (v = .slice none 0 0 ↔ ss = []) ∧ Below (w.alloc (.cells #[.map (some b)] 138)).heap.size (w.alloc (.cells #[.map (some b)] 138)) w' := by
  have hbl := hown.lt
  have hseq : SeqGives Fence.wide 2 Tryz.prog 156 #[.pointer (some ⟨w.heap.size, 0, none⟩)] encStr (fun ss => ss.Perm (strKeys D0)) (Maps.size D0) (w.alloc (.cells #[.map (some b)] 138)) :=
    AnyZ.keys_gives (ρ := keysRen) { keysLay with } Fence.wide _ trivial rfl (by omega) w.heap.size b nn D0 _ (by simp) (by simp) (by
      obtain ⟨es, clock, hb, Ft, hs, hD⟩ := hown
      exact ⟨es, clock, (Below.heap_alloc _ _ b hbl).trans hb, Ft, hs, hD⟩)
  exact (callsIn_wide (n := 5)).1 (AnyZ.sorted_in sortedLay Fence.wide 5 trivial trivial trivial trivial rfl (by omega) (sortsAny _) (enters_of Tryz.func155 (by kernel_rfl) rfl) 156 #[.pointer (some ⟨w.heap.size, 0, none⟩)] trivial (enters_of Tryz.func156 (by kernel_rfl) rfl) _ _ hmax hbytes _ hseq)

set_option maxHeartbeats 1000000 in
/-- .. and for the nil map: nil. -/
theorem sortedKeys_nil (w : World) :
    Calls Tryz.prog 109 #[.func (.func 156) #[] #[.pointer (some ⟨w.heap.size, 0, none⟩)]] (w.alloc (.cells #[.map none] 138)) fun e w' => e = .returned (.slice none 0 0) ∧ Below (w.alloc (.cells #[.map none] 138)).heap.size (w.alloc (.cells #[.map none] 138)) w' := by
  have hseq : SeqGives Fence.wide 2 Tryz.prog 156 #[.pointer (some ⟨w.heap.size, 0, none⟩)] encStr (fun ss : List (List UInt8) => ss = []) 0 (w.alloc (.cells #[.map none] 138)) :=
    AnyZ.keys_gives_nil (ρ := keysRen) { keysLay with } Fence.wide _ trivial rfl w.heap.size _ (by simp) (by simp)
  refine ((callsIn_wide (n := 5)).1 (AnyZ.sorted_in sortedLay Fence.wide 5 trivial trivial trivial trivial rfl (by omega) (sortsAny _) (enters_of Tryz.func155 (by kernel_rfl) rfl) 156 #[.pointer (some ⟨w.heap.size, 0, none⟩)] trivial (enters_of Tryz.func156 (by kernel_rfl) rfl) _ 0 (Nat.zero_le _) (by omega) _ hseq)).mono ?_
  rintro e w' ⟨v, ss, rfl, h1, h2, h3, h4⟩
  exact ⟨by rw [h3.2 h1], h4⟩
end Go.Proofs.YtihbngfbcnojcaaGreat

namespace Go.Proofs.YtihbngfbcnojcaaGreat
open Go.RowKit

/-- A string of these bytes. -/
def ofBytes (l : List UInt8) : ByteArray := ⟨l.toArray⟩
theorem ofBytes_data (k : ByteArray) : ofBytes k.data.toList = k := by cases k; simp [ofBytes]
theorem data_ofBytes (l : List UInt8) : (ofBytes l).data.toList = l := by simp [ofBytes]
theorem ofBytes_inj {a b : List UInt8} (h : ofBytes a = ofBytes b) : a = b := by rw [← data_ofBytes a, h, data_ofBytes]
theorem toList_ofBytes (l : List UInt8) : (ofBytes l).toList = l := by rw [ByteArray.toList_eq]; simp [ofBytes]

/-- The keys of a table, as they come out sorted. -/
structure KeysOf (M : DataW Value) (ks : List ByteArray) : Prop where
  rise : ks.Pairwise blt
  mem : ∀ k, k ∈ ks ↔ Maps.has M (lit k) = true
  len : ks.length = Maps.size M

theorem keys_of {w : World} {b n : Nat} {M : DataW Value} (hM : MapOf w 9 b n M) {ss : List (List UInt8)} (hp : ss.Perm (Go.strKeys M)) :
    ∃ ks : List ByteArray, KeysOf M ks ∧ (ss.mergeSort (fun x y => decide (x ≤ y))).map Go.Proofs.encStr = ks.map Value.string := by
  obtain ⟨es, hD, hpw, _⟩ := World.ownsMap.entries hM (Maps.string_keyed Tryz.underlying9)
  obtain ⟨es', hD', hko⟩ := World.ownsMap.keysOf hM
  obtain rfl : es = es' := by rw [hD] at hD'; simpa using hD'
  subst hD
  have hstr : ∀ p ∈ es, ∃ x, p.1 = .string x := fun p hp => by
    obtain ⟨v, hv⟩ := hko p hp
    obtain ⟨x, _, hx, _⟩ := Maps.keyOf_str Tryz.underlying9 hv
    exact ⟨x, hx⟩
  have hnd : (Go.strKeys (.map es)).Nodup := by
    show (es.map fun p => Go.strOf p.1).Nodup
    refine List.pairwise_map.2 (hpw.imp_of_mem fun {p q} hp' hq' hne e => hne ?_)
    obtain ⟨a, ha⟩ := hstr p hp'
    obtain ⟨b, hb⟩ := hstr q hq'
    rw [ha, hb] at e ⊢
    exact congrArg _ e
  have hmem : ∀ x, x ∈ Go.strKeys (.map es) ↔ Maps.has (.map es) (.string x) = true := fun x => by
    rw [Maps.has_eq, List.any_eq_true]
    show x ∈ es.map (fun p => Go.strOf p.1) ↔ _
    rw [List.mem_map]
    constructor
    · rintro ⟨p, hp', rfl⟩
      obtain ⟨a, ha⟩ := hstr p hp'
      exact ⟨p, hp', by rw [ha]; simp [Lit.sameKey, Go.strOf]⟩
    · rintro ⟨p, hp', hs⟩
      obtain ⟨a, ha⟩ := hstr p hp'
      rw [ha] at hs
      exact ⟨p, hp', by rw [ha]; simpa [Lit.sameKey, Go.strOf] using hs⟩
  have hlen : (Go.strKeys (.map es)).length = es.length := by
    show (es.map fun p => Go.strOf p.1).length = _
    simp
  have hms := (List.mergeSort_perm ss (fun x y => decide (x ≤ y))).trans hp
  have hpws : (ss.mergeSort (fun x y => decide (x ≤ y))).Pairwise (fun a b => decide (a ≤ b) = true) := List.pairwise_mergeSort (fun a b c h1 h2 => by simp only [decide_eq_true_eq] at *; exact List.le_trans h1 h2) (fun a b => by simp only [Bool.or_eq_true, decide_eq_true_eq]; exact List.le_total a b) ss
  generalize ss.mergeSort (fun x y => decide (x ≤ y)) = st at hms hpws ⊢
  have hnd2 : st.Nodup := hms.nodup_iff.2 hnd
  refine ⟨st.map ofBytes, ⟨?_, fun k => ?_, ?_⟩, ?_⟩
  · rw [List.pairwise_map]
    refine (hpws.and hnd2).imp (fun {a b} h => ?_)
    show (ofBytes a).toList < (ofBytes b).toList
    rw [toList_ofBytes, toList_ofBytes]
    have h1 : a ≤ b := by simpa using h.1
    rcases Classical.em (a < b) with h2 | h2
    · exact h2
    · exact absurd (List.le_antisymm h1 (List.not_lt.1 h2)) h.2
  · rw [List.mem_map]
    constructor
    · rintro ⟨x, hx, rfl⟩
      have := (hmem x).1 (hms.mem_iff.1 hx)
      simpa [lit, data_ofBytes] using this
    · intro h
      exact ⟨k.data.toList, hms.mem_iff.2 ((hmem _).2 h), ofBytes_data k⟩
  · rw [List.length_map, hms.length_eq, hlen]; rfl
  · rw [List.map_map]; rfl

theorem keysOf_nil {M : DataW Value} (h : KeysOf M []) (k : ByteArray) : Maps.has M (lit k) = false := by
  cases hb : Maps.has M (lit k)
  · rfl
  · exact absurd ((h.mem k).2 hb) (by simp)

set_option maxHeartbeats 1000000 in
/-- slices.Sorted(maps.Keys(m)). -/
theorem sortedKeys_of {w : World} {b n : Nat} {M : DataW Value} (hM : MapOf w 9 b n M) (hn : n ≤ 100000) :
    Calls Tryz.prog 109 #[.func (.func 156) #[] #[.pointer (some ⟨w.heap.size, 0, none⟩)]] (w.alloc (.cells #[.map (some b)] 138)) fun e w' => ∃ v ks, e = .returned v ∧ KeysOf M ks ∧ w'.ownsRow w.heap.size 9 1 v ks.length (ks.map Value.string) ∧ Below w.heap.size w w' := by
  have hsz : Maps.size M ≤ n := World.ownsMap.size_le hM
  refine (sortedKeys_any b n M asIs w hM (by unfold maxLen; omega) (by omega)).mono ?_
  rintro e w' ⟨v, ss, rfl, h1, h2, _, h3⟩
  obtain ⟨ks, k1, k2⟩ := keys_of hM h1
  have hl : ks.length = ss.length := by
    have := congrArg List.length k2
    simp at this
    exact this.symm
  rw [k2, ← hl] at h2
  exact ⟨v, ks, rfl, k1, owns_base h2 (by simp), ((Below.refl _ w).alloc (Nat.le_refl _) _).trans (h3.mono (by simp))⟩
end Go.Proofs.YtihbngfbcnojcaaGreat
