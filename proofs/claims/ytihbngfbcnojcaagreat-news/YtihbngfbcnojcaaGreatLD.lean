import Derived.Test.YtihbngfbcnojcaaGreatLC
namespace Go.Proofs.YtihbngfbcnojcaaGreat
open Go.RowKit

/-- An entry of the log, as the model has it. -/
structure EntV where
  (kind tx prev next : Int)
  (key : ByteArray)
  (oldIs : Bool)
  (old : ByteArray)
  (newIs : Bool)
  (new : ByteArray)

def EntV.cells (e : EntV) : Array Value := #[.int .i64 e.kind, .int .i64 e.tx, .int .i64 e.prev, .int .i64 e.next, .string e.key, .bool e.oldIs, .string e.old, .bool e.newIs, .string e.new]
/-- It fits into a sector. -/
structure EntV.Fits (e : EntV) : Prop where
  kind : 0 ≤ e.kind ∧ e.kind < 256
  tx : 0 ≤ e.tx ∧ e.tx < 256
  prev : 0 ≤ e.prev ∧ e.prev < 65536
  next : 0 ≤ e.next ∧ e.next < 65536
  key : e.key.size ≤ 8
  old : e.old.size ≤ 12
  new : e.new.size ≤ 12
def EntV.body (e : EntV) : List Value := be e.kind 1 ++ be e.tx 1 ++ be e.prev 2 ++ be e.next 2 ++ textCells e.key 8 ++ cellCells e.oldIs e.old ++ cellCells e.newIs e.new

theorem str_one (s : ByteArray) : ∀ u ∈ Lib.strCells s, u.oneCell' = true := Lib.strCells_oneCell s
theorem rep_one (n : Nat) (k : Int) : ∀ u ∈ List.replicate n (Value.int .u8 k), u.oneCell' = true := fun u hu => by rw [List.eq_of_mem_replicate hu]; rfl
theorem text_one (s : ByteArray) (r : Nat) : ∀ u ∈ textCells s r, u.oneCell' = true := by
  intro u hu
  simp only [textCells, List.mem_append, List.mem_singleton] at hu
  rcases hu with (h | h) | h
  · rw [h]; rfl
  · exact str_one s u h
  · exact rep_one _ _ u h
theorem cellCells_one (b : Bool) (s : ByteArray) : ∀ u ∈ cellCells b s, u.oneCell' = true := by
  intro u hu
  simp only [cellCells, List.mem_append, List.mem_singleton] at hu
  rcases hu with (h | h) | h
  · rw [h]; rfl
  · exact str_one s u h
  · exact rep_one _ _ u h
theorem text_length (s : ByteArray) (r : Nat) (h : s.size ≤ r) : (textCells s r).length = 1 + r := by simp [textCells, Lib.strCells_length]; omega
theorem cell_length (b : Bool) (s : ByteArray) (h : s.size ≤ 12) : (cellCells b s).length = 13 := by simp [cellCells, Lib.strCells_length]; omega
theorem EntV.body_length (e : EntV) (h : e.Fits) : e.body.length = 41 := by
  simp only [EntV.body, List.length_append, be_length, text_length _ _ h.key, cell_length _ _ h.old, cell_length _ _ h.new]
theorem EntV.body_one (e : EntV) : ∀ u ∈ e.body, u.oneCell' = true := by
  intro u hu
  simp only [EntV.body, List.mem_append] at hu
  rcases hu with (((((h | h) | h) | h) | h) | h) | h
  · exact be_one _ _ u h
  · exact be_one _ _ u h
  · exact be_one _ _ u h
  · exact be_one _ _ u h
  · exact text_one _ _ u h
  · exact cellCells_one _ _ u h
  · exact cellCells_one _ _ u h

/-- A sector: a stamp, a body, a stamp. -/
def sealed (a b : Int) (bl : List Value) : List Value := (be a 4 ++ be b 4) ++ bl ++ List.replicate (48 - bl.length) (Value.int .u8 0) ++ (be a 4 ++ be b 4)

theorem sealed_length (a b : Int) (bl : List Value) (h : bl.length ≤ 48) : (sealed a b bl).length = 64 := by
  simp only [sealed, List.length_append, List.length_replicate, be_length]; omega
theorem sealed_one (a b : Int) (bl : List Value) (h : ∀ u ∈ bl, u.oneCell' = true) : ∀ u ∈ sealed a b bl, u.oneCell' = true := by
  intro u hu
  simp only [sealed, List.mem_append] at hu
  rcases hu with (((h1 | h1) | h1) | h1) | (h1 | h1)
  · exact be_one _ _ u h1
  · exact be_one _ _ u h1
  · exact h u h1
  · exact rep_one _ _ u h1
  · exact be_one _ _ u h1
  · exact be_one _ _ u h1
theorem seal_any' (a b : Int) (w : World) (ha : 0 ≤ a) (ha' : a < 4294967296) (hb : 0 ≤ b) (hb' : b < 4294967296) (gb L cap : Nat) (bl : List Value) (hgb : gb < w.heap.size) (hL : bl.length = L) (hL' : L ≤ 48)
    (hbl : ∀ j u, bl[j]? = some u → w.cell? ⟨gb, j, none⟩ = some u) (h1 : ∀ u ∈ bl, u.oneCell' = true) :
    Calls Tryz.prog 167 #[.agg #[.int .u32 a, .int .u32 b], .slice (some ⟨gb, 0, none⟩) L cap] w fun e w' =>
      ∃ S : List Value, e = .returned (.agg S.toArray) ∧ Hid (S = sealed a b bl) ∧ Hid (S.length = 64) ∧ Hid (∀ u ∈ S, u.oneCell' = true) ∧ Below w.heap.size w w' := by
  refine (seal_any a b w ha ha' hb hb' gb L cap bl hgb hL hL' hbl h1).mono ?_
  rintro e w' ⟨rfl, hb⟩
  exact ⟨sealed a b bl, by rw [sealed, hL], rfl, sealed_length a b bl (by omega), sealed_one a b bl h1, hb⟩

set_option maxRecDepth 100000 in
set_option maxHeartbeats 4000000 in
theorem packEntry_any (a b : Int) (e : EntV) (w : World) (ha : 0 ≤ a) (ha' : a < 4294967296) (hb : 0 ≤ b) (hb' : b < 4294967296) (he : e.Fits) :
    Calls Tryz.prog 296 #[.agg #[.int .u32 a, .int .u32 b], .agg e.cells] w fun r w' => r = .returned (.agg (sealed a b e.body).toArray) ∧ Below w.heap.size w w' := by
  obtain ⟨kind, tx, prev, next, key, oldIs, old, newIs, new⟩ := e
  obtain ⟨hk, ht, hp, hn, hkey, hold, hnew⟩ := he
  have BL := EntV.body_length ⟨kind, tx, prev, next, key, oldIs, old, newIs, new⟩ ⟨hk, ht, hp, hn, hkey, hold, hnew⟩
  have HBL : Hid _ := @id (Hid _) BL
  clear BL
  simp only at hk ht hp hn hkey hold hnew
  have tok1 : True := trivial
  have tok2 : True := trivial
  have tok3 : True := trivial
  have tok4 : True := trivial
  have tok5 : True := trivial
  have tok6 : True := trivial
  have tok7 : True := trivial
  have hst := seal_start (w := w) (o1 := .cells #[.int .u32 a, .int .u32 b] 168) (o2 := .cells #[.int .i64 kind, .int .i64 tx, .int .i64 prev, .int .i64 next, .string key, .bool oldIs, .string old, .bool newIs, .string new] 152) (o3 := .cells (List.replicate 64 (Value.int .u8 0)).toArray 98)
  have HST := @id (Hid _) hst
  clear hst
  simp only [EntV.cells]
  go_enter Tryz.func296, Tryz.ntmps296
  go_wp2_with fail
  change Calls _ _ _ (((w.alloc (.cells #[.int .u32 a, .int .u32 b] 168)).alloc (.cells #[.int .i64 kind, .int .i64 tx, .int .i64 prev, .int .i64 next, .string key, .bool oldIs, .string old, .bool newIs, .string new] 152)).alloc (.cells (List.replicate 64 (Value.int .u8 0)).toArray 98)) _
  revert HST
  generalize ((w.alloc (.cells #[.int .u32 a, .int .u32 b] 168)).alloc (.cells #[.int .i64 kind, .int .i64 tx, .int .i64 prev, .int .i64 next, .string key, .bool oldIs, .string old, .bool newIs, .string new] 152)).alloc (.cells (List.replicate 64 (Value.int .u8 0)).toArray 98) = w0
  intro HST
  obtain ⟨hB0, hs0, hh0, hh1, hh2⟩ := HST.out
  have HB0 : Hid (Below w.heap.size w w0) := hB0
  have HH0 : Hid (w0.heap[w.heap.size]? = some (.cells #[.int .u32 a, .int .u32 b] 168)) := hh0
  have HH1 : Hid (w0.heap[w.heap.size + 1]? = some (.cells #[.int .i64 kind, .int .i64 tx, .int .i64 prev, .int .i64 next, .string key, .bool oldIs, .string old, .bool newIs, .string new] 152)) := hh1
  have HH2 : Hid (w0.heap[w.heap.size + 1 + 1]? = some (.cells (List.replicate 64 (Value.int .u8 0)).toArray 98)) := hh2
  have HS0 : Hid (w0.heap.size = w.heap.size + 3) := hs0
  clear hB0 hh0 hh1 hh2 hs0 HST
  refine (appendNumber_any (w.heap.size + 3) _ 0 [] kind 1 _ (World.ownsRow_nil _ _ _ _) (by have := HS0.out; omega) (by omega) hk.1 (by omega) (by omega)).mono ?_
  rintro r w1 ⟨v1, rfl, hown, hg⟩
  have HO1 : Hid (w1.ownsRow (w.heap.size + 3) 5 1 v1 1 (be kind 1)) := hown
  have HB1 : Hid (Below (w.heap.size + 3) w0 w1) := hg.below (World.ownsRow_nil _ (w.heap.size + 3) 5 1) (Nat.le_refl _) (by have := HS0.out; omega)
  have HS1 : Hid (w.heap.size + 3 ≤ w1.heap.size) := by have := HB1.out.size; have := HS0.out; show _ ≤ _; omega
  have q1_1 : w1.cell? ⟨w.heap.size + 1, 1, none⟩ = some (.int .i64 tx) := (HB1.out.cell (by simp)).trans (cell_at HH1.out rfl)
  clear tok1 hown hg
  go_wp2_with (first
    | (go_at_call 169; have _t := tok2; go_must (
        refine (appendNumber_any (w.heap.size + 3) _ 1 (be kind 1) tx 1 _ HO1.out (by have := HS1.out; omega) (by omega) ht.1 (by omega) (by omega)).mono ?_
        rintro r w2 ⟨v2, rfl, hown, hg⟩
        have HO2 : Hid (w2.ownsRow (w.heap.size + 3) 5 1 v2 2 (be kind 1 ++ be tx 1)) := hown
        have HB2 : Hid (Below (w.heap.size + 3) w0 w2) := HB1.out.trans (hg.below HO1.out (Nat.le_refl _) (by have := HS1.out; omega))
        have HS2 : Hid (w.heap.size + 3 ≤ w2.heap.size) := by have := HB2.out.size; have := HS0.out; show _ ≤ _; omega
        have q2_2 : w2.cell? ⟨w.heap.size + 1, 2, none⟩ = some (.int .i64 prev) := (HB2.out.cell (by simp)).trans (cell_at HH1.out rfl)
        clear tok2 hown hg HO1 HB1 HS1 q1_1))
    | (go_at_call 169; have _t := tok3; go_must (
        refine (appendNumber_any (w.heap.size + 3) _ 2 (be kind 1 ++ be tx 1) prev 2 _ HO2.out (by have := HS2.out; omega) (by omega) hp.1 (by omega) (by omega)).mono ?_
        rintro r w3 ⟨v3, rfl, hown, hg⟩
        have HO3 : Hid (w3.ownsRow (w.heap.size + 3) 5 1 v3 4 (be kind 1 ++ be tx 1 ++ be prev 2)) := hown
        have HB3 : Hid (Below (w.heap.size + 3) w0 w3) := HB2.out.trans (hg.below HO2.out (Nat.le_refl _) (by have := HS2.out; omega))
        have HS3 : Hid (w.heap.size + 3 ≤ w3.heap.size) := by have := HB3.out.size; have := HS0.out; show _ ≤ _; omega
        have q3_3 : w3.cell? ⟨w.heap.size + 1, 3, none⟩ = some (.int .i64 next) := (HB3.out.cell (by simp)).trans (cell_at HH1.out rfl)
        clear tok3 hown hg HO2 HB2 HS2 q2_2))
    | (go_at_call 169; have _t := tok4; go_must (
        refine (appendNumber_any (w.heap.size + 3) _ 4 (be kind 1 ++ be tx 1 ++ be prev 2) next 2 _ HO3.out (by have := HS3.out; omega) (by omega) hn.1 (by omega) (by omega)).mono ?_
        rintro r w4 ⟨v4, rfl, hown, hg⟩
        have HO4 : Hid (w4.ownsRow (w.heap.size + 3) 5 1 v4 6 (be kind 1 ++ be tx 1 ++ be prev 2 ++ be next 2)) := hown
        have HB4 : Hid (Below (w.heap.size + 3) w0 w4) := HB3.out.trans (hg.below HO3.out (Nat.le_refl _) (by have := HS3.out; omega))
        have HS4 : Hid (w.heap.size + 3 ≤ w4.heap.size) := by have := HB4.out.size; have := HS0.out; show _ ≤ _; omega
        have q4_4 : w4.cell? ⟨w.heap.size + 1, 4, none⟩ = some (.string key) := (HB4.out.cell (by simp)).trans (cell_at HH1.out rfl)
        clear tok4 hown hg HO3 HB3 HS3 q3_3))
    | (go_at_call 211; have _t := tok5; go_must (
        refine (appendText_any (w.heap.size + 3) _ 6 (be kind 1 ++ be tx 1 ++ be prev 2 ++ be next 2) key 8 _ HO4.out (by have := HS4.out; omega) (by omega) hkey (by omega)).mono ?_
        rintro r w5 ⟨v5, rfl, hown, hg⟩
        have HO5 : Hid (w5.ownsRow (w.heap.size + 3) 5 1 v5 15 (be kind 1 ++ be tx 1 ++ be prev 2 ++ be next 2 ++ textCells key 8)) := hown
        have HB5 : Hid (Below (w.heap.size + 3) w0 w5) := HB4.out.trans (hg.below HO4.out (Nat.le_refl _) (by have := HS4.out; omega))
        have HS5 : Hid (w.heap.size + 3 ≤ w5.heap.size) := by have := HB5.out.size; have := HS0.out; show _ ≤ _; omega
        have q5_5 : w5.cell? ⟨w.heap.size + 1, 5, none⟩ = some (.bool oldIs) := (HB5.out.cell (by simp)).trans (cell_at HH1.out rfl)
        have q5_6 : w5.cell? ⟨w.heap.size + 1, 6, none⟩ = some (.string old) := (HB5.out.cell (by simp)).trans (cell_at HH1.out rfl)
        clear tok5 hown hg HO4 HB4 HS4 q4_4))
    | (go_at_call 298; have _t := tok6; go_must (
        refine (appendCell_any (w.heap.size + 3) _ 15 (be kind 1 ++ be tx 1 ++ be prev 2 ++ be next 2 ++ textCells key 8) oldIs old _ HO5.out (by have := HS5.out; omega) (by omega) hold).mono ?_
        rintro r w6 ⟨v6, rfl, hown, hg⟩
        have HO6 : Hid (w6.ownsRow (w.heap.size + 3) 5 1 v6 28 (be kind 1 ++ be tx 1 ++ be prev 2 ++ be next 2 ++ textCells key 8 ++ cellCells oldIs old)) := hown
        have HB6 : Hid (Below (w.heap.size + 3) w0 w6) := HB5.out.trans (hg.below HO5.out (Nat.le_refl _) (by have := HS5.out; omega))
        have HS6 : Hid (w.heap.size + 3 ≤ w6.heap.size) := by have := HB6.out.size; have := HS0.out; show _ ≤ _; omega
        have q6_7 : w6.cell? ⟨w.heap.size + 1, 7, none⟩ = some (.bool newIs) := (HB6.out.cell (by simp)).trans (cell_at HH1.out rfl)
        have q6_8 : w6.cell? ⟨w.heap.size + 1, 8, none⟩ = some (.string new) := (HB6.out.cell (by simp)).trans (cell_at HH1.out rfl)
        clear tok6 hown hg HO5 HB5 HS5 q5_5 q5_6))
    | (go_at_call 298; have _t := tok7; go_must (
        refine (appendCell_any (w.heap.size + 3) _ 28 (be kind 1 ++ be tx 1 ++ be prev 2 ++ be next 2 ++ textCells key 8 ++ cellCells oldIs old) newIs new _ HO6.out (by have := HS6.out; omega) (by omega) hnew).mono ?_
        rintro r w7 ⟨v7, rfl, hown, hg⟩
        have HO7 : Hid (w7.ownsRow (w.heap.size + 3) 5 1 v7 41 (be kind 1 ++ be tx 1 ++ be prev 2 ++ be next 2 ++ textCells key 8 ++ cellCells oldIs old ++ cellCells newIs new)) := hown
        have HB7 : Hid (Below (w.heap.size + 3) w0 w7) := HB6.out.trans (hg.below HO6.out (Nat.le_refl _) (by have := HS6.out; omega))
        have HS7 : Hid (w.heap.size + 3 ≤ w7.heap.size) := by have := HB7.out.size; have := HS0.out; show _ ≤ _; omega
        have q0 : w7.cell? ⟨w.heap.size, 0, none⟩ = some (.int .u32 a) := (HB7.out.cell (by simp)).trans (cell_at HH0.out rfl)
        have q1 : w7.cell? ⟨w.heap.size, 1, none⟩ = some (.int .u32 b) := (HB7.out.cell (by simp)).trans (cell_at HH0.out rfl)
        obtain ⟨g7, cap7, cur7, rfl, hg7b, hg7h, hc7, hcur⟩ := owns_row HO7.out (by omega)
        have HG7 : Hid (w7.heap[g7]? = some (.cells cur7 5)) := hg7h
        have HC7 : Hid (∀ (j : Nat) u, (be kind 1 ++ be tx 1 ++ be prev 2 ++ be next 2 ++ textCells key 8 ++ cellCells oldIs old ++ cellCells newIs new)[j]? = some u → cur7[j]? = some u) := hcur
        clear hg7b hg7h hc7 hcur
        clear tok7 hown hg HO6 HB6 HS6 q6_7 q6_8))
    | (go_at_call 167; go_must (
        refine (seal_any' a b _ ha ha' hb hb' g7 41 cap7 (be kind 1 ++ be tx 1 ++ be prev 2 ++ be next 2 ++ textCells key 8 ++ cellCells oldIs old ++ cellCells newIs new) (lt_of_block' HG7.out) HBL.out (by omega) (fun j u hu => cell_at HG7.out (HC7.out j u hu)) (EntV.body_one ⟨kind, tx, prev, next, key, oldIs, old, newIs, new⟩)).mono ?_
        rintro r w8 ⟨S, rfl, HSS, HSL, HS1, hb8⟩
        have K1 : Hid (w8.heap[w.heap.size + 1 + 1]? = some (.cells (List.replicate 64 (Value.int .u8 0)).toArray 98)) := ((HB7.out.trans (hb8.mono HS7.out)).block _ (by omega)).trans HH2.out
        have HB8 : Hid (Below (w.heap.size + 3) w0 w8) := HB7.out.trans (hb8.mono HS7.out)
        clear hb8 HB7 HS7 HG7 HC7 q0 q1))
    | (refine wpList_store_row rfl 98 (.tmp 4) (.tmp 35) rfl (w.heap.size + 1 + 1) S.toArray rfl rfl 98 _ K1.out ?hi2 ?ho ?h1 ?_
       go_must (
         case hi2 => rw [List.size_toArray, HSL.out]; kernel_rfl
         case ho => rw [List.size_toArray, List.size_toArray, HSL.out]; rfl
         case h1 => exact all_one _ HS1.out)))
  refine bodyPost_ret (v := .agg S.toArray) ?_ rfl ⟨by rw [HSS.out]; rfl, ?_⟩
  · exact results_cell_row Tryz.results296 _ _ (w.heap.size + 1 + 1) 98 S.toArray (0, 0) _ rfl (setRow_heap _ _ _ _ _ _ K1.out) Tryz.underlying98 rfl (by rw [List.size_toArray, HSL.out]; kernel_rfl)
  · exact below_setRow (HB0.out.trans (HB8.out.mono (by omega))) (by omega) _
end Go.Proofs.YtihbngfbcnojcaaGreat
