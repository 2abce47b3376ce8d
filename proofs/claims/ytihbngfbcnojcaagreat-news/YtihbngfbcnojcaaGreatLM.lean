import Derived.Test.YtihbngfbcnojcaaGreatDC
namespace Go.Proofs.YtihbngfbcnojcaaGreat
open Go.RowKit

/-- A master record's body: the log's start, the mode. -/
def masterBody (log mode : Int) : List Value := be log 4 ++ be mode 1
theorem masterBody_length (log mode : Int) : (masterBody log mode).length = 5 := by simp [masterBody, be_length]
theorem masterBody_one (log mode : Int) : ∀ u ∈ masterBody log mode, u.oneCell' = true := by
  intro u hu
  rcases List.mem_append.1 hu with h | h
  · exact be_one _ _ u h
  · exact be_one _ _ u h

/-- The cells of a whole row are stored: laid as a rule for a region that draws its order. -/
theorem run_row (w : World) (g : Nat) (old : Array Value) (t : TypeId) (S : List Value) (hg : w.heap[g]? = some (.cells old t (0, 0))) (hl : old.size = S.length) (h1 : ∀ u ∈ S, u.oneCell' = true) :
    Sem.run Tryz.prog (storeCells ⟨g, 0, none⟩ S) w = .ok () (w.setRow g S.toArray) := by
  have := run_storeCells_from (P := Tryz.prog) g t S 0 old w hg (by omega) h1
  simpa using this

set_option maxRecDepth 100000 in
set_option maxHeartbeats 4000000 in
theorem packMaster_any (a b log mode : Int) (w : World) (ha : 0 ≤ a) (ha' : a < 4294967296) (hb : 0 ≤ b) (hb' : b < 4294967296) (hl : 0 ≤ log) (hl' : log < 4294967296) (hm : 0 ≤ mode) (hm' : mode < 256) :
    Calls Tryz.prog 123 #[.agg #[.int .u32 a, .int .u32 b], .agg #[.int .u32 log, .int .i64 mode]] w fun r w' => r = .returned (.agg (sealed a b (masterBody log mode)).toArray) ∧ Below w.heap.size w w' := by
  have HBL : Hid ((masterBody log mode).length = 5) := masterBody_length log mode
  have hwl : IntKind.i64.wrap log = log := by rw [IntKind.wrap_i64]; omega
  have tok1 : True := trivial
  have hst := seal_start (w := w) (o1 := .cells #[.int .u32 a, .int .u32 b] 168) (o2 := .cells #[.int .u32 log, .int .i64 mode] 133) (o3 := .cells (List.replicate 64 (Value.int .u8 0)).toArray 98)
  have HST := @id (Hid _) hst
  clear hst
  go_enter Tryz.func123, Tryz.ntmps123
  go_wp2_with fail
  change Calls _ _ _ (((w.alloc (.cells #[.int .u32 a, .int .u32 b] 168)).alloc (.cells #[.int .u32 log, .int .i64 mode] 133)).alloc (.cells (List.replicate 64 (Value.int .u8 0)).toArray 98)) _
  revert HST
  generalize ((w.alloc (.cells #[.int .u32 a, .int .u32 b] 168)).alloc (.cells #[.int .u32 log, .int .i64 mode] 133)).alloc (.cells (List.replicate 64 (Value.int .u8 0)).toArray 98) = w0
  intro HST
  obtain ⟨hB0, hs0, hh0, hh1, hh2⟩ := HST.out
  have HB0 : Hid (Below w.heap.size w w0) := hB0
  have HH0 : Hid (w0.heap[w.heap.size]? = some (.cells #[.int .u32 a, .int .u32 b] 168)) := hh0
  have HH1 : Hid (w0.heap[w.heap.size + 1]? = some (.cells #[.int .u32 log, .int .i64 mode] 133)) := hh1
  have HH2 : Hid (w0.heap[w.heap.size + 1 + 1]? = some (.cells (List.replicate 64 (Value.int .u8 0)).toArray 98)) := hh2
  have HS0 : Hid (w0.heap.size = w.heap.size + 3) := hs0
  clear hB0 hh0 hh1 hh2 hs0 HST
  refine (appendNumber_any (w.heap.size + 3) _ 0 [] log 4 _ (World.ownsRow_nil _ _ _ _) (by have := HS0.out; omega) (by omega) hl (by omega) (by omega)).mono ?_
  rintro r w1 ⟨v1, rfl, hown, hg⟩
  have HO1 : Hid (w1.ownsRow (w.heap.size + 3) 5 1 v1 4 (be log 4)) := hown
  have HB1 : Hid (Below (w.heap.size + 3) w0 w1) := hg.below (World.ownsRow_nil _ (w.heap.size + 3) 5 1) (Nat.le_refl _) (by have := HS0.out; omega)
  have HS1 : Hid (w.heap.size + 3 ≤ w1.heap.size) := by have := HB1.out.size; have := HS0.out; show _ ≤ _; omega
  have q1_0 : w1.cell? ⟨w.heap.size, 0, none⟩ = some (.int .u32 a) := (HB1.out.cell (by simp)).trans (cell_at HH0.out rfl)
  have q1_1 : w1.cell? ⟨w.heap.size, 1, none⟩ = some (.int .u32 b) := (HB1.out.cell (by simp)).trans (cell_at HH0.out rfl)
  have q1_2 : w1.cell? ⟨w.heap.size + 1, 1, none⟩ = some (.int .i64 mode) := (HB1.out.cell (by simp)).trans (cell_at HH1.out rfl)
  clear tok1 hown hg
  go_wp2
  have HM1 : Hid (∀ u ∈ be log 4 ++ be mode 1, u.oneCell' = true) := masterBody_one log mode
  go_region_law (first
    | (go_simp; go_wp2_with (first
        | (go_at_call 169; go_must (
            refine (appendNumber_any (w.heap.size + 3) _ 4 (be log 4) mode 1 w1.drew HO1.out (by have := HS1.out; simp; omega) (by omega) hm (by omega) (by omega)).mono ?_
            rintro r w2 ⟨v2, rfl, hown, hg⟩
            have hB2 : Below (w.heap.size + 3) w0 w2 := HB1.out.trans ((Below.refl _ _).drew.trans (hg.below HO1.out (Nat.le_refl _) (by have := HS1.out; simp; omega)))
            have HB2 : Hid (Below (w.heap.size + 3) w0 w2) := hB2
            have HS2 : Hid (w.heap.size + 3 ≤ w2.heap.size) := by have := HB2.out.size; have := HS0.out; show _ ≤ _; omega
            have q2_0 : w2.cell? ⟨w.heap.size, 0, none⟩ = some (.int .u32 a) := (HB2.out.cell (by simp)).trans (cell_at HH0.out rfl)
            have q2_1 : w2.cell? ⟨w.heap.size, 1, none⟩ = some (.int .u32 b) := (HB2.out.cell (by simp)).trans (cell_at HH0.out rfl)
            obtain ⟨g7, cap7, cur7, rfl, hg7b, hg7h, hc7, hcur⟩ := owns_row hown (by omega)
            have HG7 : Hid (w2.heap[g7]? = some (.cells cur7 5)) := hg7h
            have HC7 : Hid (∀ (j : Nat) u, (be log 4 ++ be mode 1)[j]? = some u → cur7[j]? = some u) := hcur
            clear hg7b hg7h hc7 hcur hown hg hB2))
        | (go_at_call 167; go_must (
            refine (seal_any' a b _ ha ha' hb hb' g7 5 cap7 (be log 4 ++ be mode 1) (lt_of_block' HG7.out) HBL.out (by omega) (fun j u hu => cell_at HG7.out (HC7.out j u hu)) HM1.out).mono ?_
            rintro r w8 ⟨S, rfl, HSS, HSL, HS1', hb8⟩
            have K1 : Hid (w8.heap[w.heap.size + 1 + 1]? = some (.cells (List.replicate 64 (Value.int .u8 0)).toArray 98)) := ((HB2.out.trans (hb8.mono HS2.out)).block _ (by omega)).trans HH2.out
            have HB8 : Hid (Below (w.heap.size + 3) w0 w8) := HB2.out.trans (hb8.mono HS2.out)
            have hSL := HSL.out
            have hrun := run_row w8 (w.heap.size + 1 + 1) _ 98 S K1.out (by rw [List.size_toArray, HSL.out]; rfl) HS1'.out
            clear hb8 HB2 HS2 HG7 HC7 q2_0 q2_1)))))
  all_goals
    go_wp2
    refine bodyPost_ret (v := .agg S.toArray) ?_ rfl ⟨by rw [HSS.out]; rfl, ?_⟩
    · exact results_cell_row Tryz.results123 _ _ (w.heap.size + 1 + 1) 98 S.toArray (0, 0) _ rfl (setRow_heap _ _ _ _ _ _ K1.out) Tryz.underlying98 rfl (by rw [List.size_toArray, HSL.out]; kernel_rfl)
    · exact below_setRow (HB0.out.trans (HB8.out.mono (by omega))) (by omega) _
end Go.Proofs.YtihbngfbcnojcaaGreat
