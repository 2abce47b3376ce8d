import Derived.Test.YtihbngfbcnojcaaGreatLB
import Derived.Deep.RegionLaw
import Derived.Laws.CopyOwn
namespace Go.Proofs.YtihbngfbcnojcaaGreat
open Go.RowKit

theorem sz5 : (Tryz.prog.info? 5).map (·.size) = some 1 := by kernel_rfl
theorem be_one (n : Int) (k : Nat) : ∀ u ∈ be n k, u.oneCell' = true := by
  induction k with
  | zero => simp [be]
  | succ k ih =>
    intro u hu
    simp [be] at hu
    rcases hu with rfl | hu
    · rfl
    · exact ih u hu
theorem be2_one (a b : Int) : ∀ u ∈ be a 4 ++ be b 4, u.oneCell' = true := by
  intro u hu
  rcases List.mem_append.1 hu with h | h
  · exact be_one _ _ u h
  · exact be_one _ _ u h
theorem add_zero' (g j : Nat) : (⟨g, 0, none⟩ : Addr).add j = ⟨g, j, none⟩ := by unfold Addr.add; split <;> simp_all

/-- What seal starts with. -/
theorem seal_start {w : World} {o1 o2 o3 : Obj} : Below w.heap.size w (((w.alloc o1).alloc o2).alloc o3) ∧ (((w.alloc o1).alloc o2).alloc o3).heap.size = w.heap.size + 3 ∧
    (((w.alloc o1).alloc o2).alloc o3).heap[w.heap.size]? = some o1 ∧ (((w.alloc o1).alloc o2).alloc o3).heap[w.heap.size + 1]? = some o2 ∧ (((w.alloc o1).alloc o2).alloc o3).heap[w.heap.size + 1 + 1]? = some o3 := by
  refine ⟨(((Below.refl _ _).alloc (Nat.le_refl _) _).alloc (by simp) _).alloc (by simp; omega) _, by simp, ?_, ?_, ?_⟩
  · rw [Below.heap_alloc _ _ _ (by simp; omega), Below.heap_alloc _ _ _ (by simp)]; exact heap_alloc_new _ _
  · rw [Below.heap_alloc _ _ _ (by simp)]; have := heap_alloc_new (w.alloc o1) o2; simpa using this
  · have := heap_alloc_new ((w.alloc o1).alloc o2) o3; simpa using this

theorem seal_list (A bl : List Value) (z : Value) (hA : A.length = 8) (hL : bl.length ≤ 48) :
    splice (splice (splice (List.replicate 64 z) 0 A) 8 bl) 56 A = A ++ bl ++ List.replicate (48 - bl.length) z ++ A := by
  have e1 : splice (List.replicate 64 z) 0 A = A ++ List.replicate 56 z := by simp [splice, hA]
  have e2 : splice (A ++ List.replicate 56 z) 8 bl = A ++ (bl ++ List.replicate (56 - bl.length) z) := by
    simp only [splice]
    rw [List.take_left' hA, List.drop_append, List.drop_eq_nil_of_le (by omega), hA, List.nil_append, List.drop_replicate]
    congr 3
    omega
  have e3 : A ++ (bl ++ List.replicate (56 - bl.length) z) = (A ++ bl ++ List.replicate (48 - bl.length) z) ++ List.replicate 8 z := by
    rw [show 56 - bl.length = (48 - bl.length) + 8 by omega, ← List.replicate_append_replicate]
    simp only [List.append_assoc]
  have hl : (A ++ bl ++ List.replicate (48 - bl.length) z).length = 56 := by simp [hA]; omega
  rw [e1, e2, e3]
  simp only [splice]
  rw [List.take_left' hl, List.drop_eq_nil_of_le (by rw [List.length_append, hl, hA, List.length_replicate]; omega)]
  simp [List.append_assoc]

theorem all_one (S : List Value) (h : ∀ u ∈ S, u.oneCell' = true) : S.toArray.all (·.oneCell') = true := by simpa using h

set_option maxRecDepth 100000 in
set_option maxHeartbeats 1000000 in
theorem seal_core (a b : Int) (A : List Value) (hA : A.length = 8) (hA1 : ∀ u ∈ A, u.oneCell' = true)
    (hby : ∀ w, Calls Tryz.prog 213 #[.agg #[.int .u32 a, .int .u32 b]] w fun e w' => ∃ v', e = .returned v' ∧ w'.ownsRow (w.heap.size + 1) 5 1 v' 8 A ∧ Below w.heap.size w w')
    (w : World) (gb L cap : Nat) (bl : List Value) (hgb : gb < w.heap.size) (hL : bl.length = L) (hL' : L ≤ 48)
    (hbl : ∀ j u, bl[j]? = some u → w.cell? ⟨gb, j, none⟩ = some u) (h1 : ∀ u ∈ bl, u.oneCell' = true) :
    Calls Tryz.prog 167 #[.agg #[.int .u32 a, .int .u32 b], .slice (some ⟨gb, 0, none⟩) L cap] w fun e w' =>
      e = .returned (.agg (A ++ bl ++ List.replicate (48 - L) (Value.int .u8 0) ++ A).toArray) ∧ Below w.heap.size w w' := by
  have tok1 : True := trivial
  have HA : Hid (A.length = 8) := hA
  have HL : Hid (bl.length = L) := hL
  clear hA hL
  have HBY := @id (Hid _) hby
  clear hby
  go_enter Tryz.func167, Tryz.ntmps167
  go_wp2
  have hst := seal_start (w := w) (o1 := .cells #[.int .u32 a, .int .u32 b] 168) (o2 := .cells (List.replicate 64 (Value.int .u8 0)).toArray 98) (o3 := .cells (List.replicate 64 (Value.int .u8 0)).toArray 98)
  change Code.wp _ _ _ _ (((w.alloc (.cells #[.int .u32 a, .int .u32 b] 168)).alloc (.cells (List.replicate 64 (Value.int .u8 0)).toArray 98)).alloc (.cells (List.replicate 64 (Value.int .u8 0)).toArray 98))
  revert hst
  generalize ((w.alloc (.cells #[.int .u32 a, .int .u32 b] 168)).alloc (.cells (List.replicate 64 (Value.int .u8 0)).toArray 98)).alloc (.cells (List.replicate 64 (Value.int .u8 0)).toArray 98) = w0
  rintro ⟨hB0, hs0, hh0, hh1, hh2⟩
  have c0 : w0.cell? ⟨w.heap.size, 0, none⟩ = some (.int .u32 a) := cell_at hh0 rfl
  have c1 : w0.cell? ⟨w.heap.size, 1, none⟩ = some (.int .u32 b) := cell_at hh0 rfl
  have HBL : Hid (∀ j u, bl[j]? = some u → w.cell? ⟨gb, j, none⟩ = some u) := hbl
  have HB0 : Hid (Below w.heap.size w w0) := hB0
  have HH0 : Hid (w0.heap[w.heap.size]? = some (.cells #[.int .u32 a, .int .u32 b] 168)) := hh0
  have HH1 : Hid (w0.heap[w.heap.size + 1]? = some (.cells (List.replicate 64 (Value.int .u8 0)).toArray 98)) := hh1
  have HH2 : Hid (w0.heap[w.heap.size + 1 + 1]? = some (.cells (List.replicate 64 (Value.int .u8 0)).toArray 98)) := hh2
  have HS0 : Hid (w0.heap.size = w.heap.size + 3) := hs0
  clear hbl hB0 hh0 hh1 hh2 hs0
  go_region_law (first
    | (refine step_copy_splice rfl (.tmp 6) (.tmp 8) 46 46 rfl 5 Tryz.underlying46 sz5 (some ⟨w.heap.size + 1 + 1, 0, none⟩) (some ⟨g1, 0, none⟩) 64 64 8 cap1 rfl rfl (w.heap.size + 1 + 1) 0 _ 98 HH3.out A HA.out (fun _ => ⟨rfl, ⟨g1, 0, none⟩, rfl, HSRC.out⟩) (by rw [HA.out]; simp) hA1 (w.heap.size + 1 + 1) w1 (Below.refl _ _) (Nat.le_refl _) ?_
       intro w2 HH4 hB2
       have HB2 : Hid (Below (w.heap.size + 1 + 1) w0 w2) := HB1.out.trans hB2
       clear hB2)
    | (go_simp; go_wp2_with (first | (go_at_call 213; go_must (
        refine (HBY.out _).mono ?_
        rintro e w1 ⟨v1, rfl, hown1, hb1⟩
        obtain ⟨g1, cap1, cur1, rfl, hg1b, hg1h, hc1, hcur⟩ := owns_row hown1 (by omega)
        have HSRC : Hid (∀ j u, A[j]? = some u → w1.cell? ((⟨g1, 0, none⟩ : Addr).add j) = some u) := fun j u hu => by rw [add_zero']; exact cell_at hg1h (hcur j u hu)
        have hB1' : Below w0.heap.size w0 w1 := (Below.refl _ _).drew.trans hb1
        have HB1 : Hid (Below (w.heap.size + 1 + 1) w0 w1) := hB1'.mono (by have := HS0.out; omega)
        have HH3 : Hid (w1.heap[w.heap.size + 1 + 1]? = some (.cells (List.replicate 64 (Value.int .u8 0)).toArray 98)) := (hB1'.block (w.heap.size + 1 + 1) (by have := HS0.out; omega)).trans HH2.out
        clear hown1 hb1 hg1b hg1h hcur hc1 hB1')))))
  have hgb2 : gb < w2.heap.size := by have := HB2.out.size; have := HS0.out; omega
  have hm : L = Nat.min L 56 := by simp [Nat.min_def]; omega
  have HM : Hid (L = Nat.min L 56) := hm
  clear hm
  go_wp2_with (first | (have _t := tok1; (
      refine wpList_copy_splice rfl (.tmp 10) (.tmp 11) 46 46 rfl 5 Tryz.underlying46 sz5 (some ⟨w.heap.size + 1 + 1, 8, none⟩) (some ⟨gb, 0, none⟩) 56 56 L cap rfl rfl (w.heap.size + 1 + 1) 8 _ 98 HH4.out bl (HL.out.trans HM.out) (fun _ => ⟨rfl, ⟨gb, 0, none⟩, rfl, ?hsrc⟩) ?hfit h1 (w.heap.size + 1 + 1) w0 HB2.out (Nat.le_refl _) ?_
      case hsrc => intro j u hu; rw [add_zero', HB2.out.cell (show gb < w.heap.size + 1 + 1 by omega), HB0.out.cell hgb]; exact HBL.out j u hu
      case hfit => rw [length_splice _ _ _ (by rw [HA.out]; simp)]; have := HL.out; simp; omega
      intro w3 HH5 hB3
      have HB3 : Hid (Below (w.heap.size + 1 + 1) w0 w3) := hB3
      clear hB3 tok1)))
  have k0 : w3.heap[w.heap.size]? = some (.cells #[.int .u32 a, .int .u32 b] 168) := (HB3.out.block _ (by omega)).trans HH0.out
  have d0 : w3.cell? ⟨w.heap.size, 0, none⟩ = some (.int .u32 a) := cell_at k0 rfl
  have d1 : w3.cell? ⟨w.heap.size, 1, none⟩ = some (.int .u32 b) := cell_at k0 rfl
  have HS3 : Hid (w.heap.size + 3 ≤ w3.heap.size) := by have := HB3.out.size; have := HS0.out; show _ ≤ _; omega
  have HLC : Hid ((splice (splice (List.replicate 64 (Value.int .u8 0)) 0 A) 8 bl).length = 64) := by
    show _ = _
    rw [length_splice _ _ _ (by rw [length_splice _ _ _ (by rw [HA.out]; simp)]; have := HL.out; simp; omega), length_splice _ _ _ (by rw [HA.out]; simp)]
    simp
  clear k0 c0 c1
  go_region_law (first
    | (refine step_copy_splice rfl (.tmp 13) (.tmp 15) 46 46 rfl 5 Tryz.underlying46 sz5 (some ⟨w.heap.size + 1 + 1, 56, none⟩) (some ⟨g4, 0, none⟩) 8 8 8 cap4 rfl rfl (w.heap.size + 1 + 1) 56 _ 98 HH6.out A HA.out (fun _ => ⟨rfl, ⟨g4, 0, none⟩, rfl, HSRC4.out⟩) (by rw [HA.out, HLC.out]; omega) hA1 (w.heap.size + 1 + 1) w0 HB4.out (Nat.le_refl _) ?_
       intro w5 HH7 hB5
       have HB5 : Hid (Below (w.heap.size + 1 + 1) w0 w5) := hB5
       clear hB5)
    | (go_simp; go_wp2_with (first | (go_at_call 213; go_must (
        refine (HBY.out _).mono ?_
        rintro e w4 ⟨v4, rfl, hown4, hb4⟩
        obtain ⟨g4, cap4, cur4, rfl, hg4b, hg4h, hc4, hcur⟩ := owns_row hown4 (by omega)
        have HSRC4 : Hid (∀ j u, A[j]? = some u → w4.cell? ((⟨g4, 0, none⟩ : Addr).add j) = some u) := fun j u hu => by rw [add_zero']; exact cell_at hg4h (hcur j u hu)
        have hB4' : Below w3.heap.size w3 w4 := (Below.refl _ _).drew.trans hb4
        have HB4 : Hid (Below (w.heap.size + 1 + 1) w0 w4) := HB3.out.trans (hB4'.mono (by have := HS3.out; omega))
        have HH6 : Hid (w4.heap[w.heap.size + 1 + 1]? = some (.cells (splice (splice (List.replicate 64 (Value.int .u8 0)) 0 A) 8 bl).toArray 98)) := (hB4'.block (w.heap.size + 1 + 1) (by have := HS3.out; omega)).trans HH5.out
        clear hown4 hb4 hg4b hg4h hcur hc4 hB4')))))
  have HF : Hid (splice (splice (splice (List.replicate 64 (Value.int .u8 0)) 0 A) 8 bl) 56 A = A ++ bl ++ List.replicate (48 - L) (Value.int .u8 0) ++ A) := by
    have := seal_list A bl (.int .u8 0) HA.out (by have := HL.out; omega)
    rw [HL.out] at this
    exact this
  rw [HF.out] at HH7
  have HSL : Hid ((A ++ bl ++ List.replicate (48 - L) (Value.int .u8 0) ++ A).length = 64) := by
    show _ = _
    simp only [List.length_append, List.length_replicate, HA.out, HL.out]
    omega
  have HS1 : Hid (∀ u ∈ A ++ bl ++ List.replicate (48 - L) (Value.int .u8 0) ++ A, u.oneCell' = true) := by
    intro u hu
    simp only [List.mem_append] at hu
    rcases hu with ((h | h) | h) | h
    · exact hA1 u h
    · exact h1 u h
    · rw [List.eq_of_mem_replicate h]; rfl
    · exact hA1 u h
  have K1 : Hid (w5.heap[w.heap.size + 1]? = some (.cells (List.replicate 64 (Value.int .u8 0)).toArray 98)) := (HB5.out.block _ (by omega)).trans HH1.out
  have HBF : Hid (Below w.heap.size w w5) := HB0.out.trans (HB5.out.mono (by omega))
  clear HF HBL
  obtain ⟨S, hS⟩ : ∃ S, A ++ bl ++ List.replicate (48 - L) (Value.int .u8 0) ++ A = S := ⟨_, rfl⟩
  rw [hS] at HH7 HSL HS1
  have HSS : Hid (A ++ bl ++ List.replicate (48 - L) (Value.int .u8 0) ++ A = S) := hS
  clear hS
  go_wp2_with (first
    | (refine wpList_load_row rfl 98 (.tmp 5) rfl (w.heap.size + 1 + 1) rfl 98 _ (0, 0) _ HH7.out Tryz.underlying98 rfl ?hi1 ?_
       case hi1 => rw [List.size_toArray, HSL.out]; kernel_rfl)
    | (refine wpList_store_row rfl 98 (.tmp 4) (.tmp 17) rfl (w.heap.size + 1) S.toArray rfl rfl 98 _ K1.out ?hi2 ?ho ?h1 ?_
       go_must (
         case hi2 => rw [List.size_toArray, HSL.out]; kernel_rfl
         case ho => rw [List.size_toArray, List.size_toArray, HSL.out]; rfl
         case h1 => exact all_one _ HS1.out)))
  refine bodyPost_ret (v := .agg S.toArray) ?_ rfl ⟨by rw [HSS.out], ?_⟩
  · exact results_cell_row Tryz.results167 _ _ (w.heap.size + 1) 98 S.toArray (0, 0) _ rfl (setRow_heap _ _ _ _ _ _ K1.out) Tryz.underlying98 rfl (by rw [List.size_toArray, HSL.out]; kernel_rfl)
  · exact below_setRow HBF.out (by omega) _

theorem seal_any (a b : Int) (w : World) (ha : 0 ≤ a) (ha' : a < 4294967296) (hb : 0 ≤ b) (hb' : b < 4294967296) (gb L cap : Nat) (bl : List Value) (hgb : gb < w.heap.size) (hL : bl.length = L) (hL' : L ≤ 48)
    (hbl : ∀ j u, bl[j]? = some u → w.cell? ⟨gb, j, none⟩ = some u) (h1 : ∀ u ∈ bl, u.oneCell' = true) :
    Calls Tryz.prog 167 #[.agg #[.int .u32 a, .int .u32 b], .slice (some ⟨gb, 0, none⟩) L cap] w fun e w' =>
      e = .returned (.agg ((be a 4 ++ be b 4) ++ bl ++ List.replicate (48 - L) (Value.int .u8 0) ++ (be a 4 ++ be b 4)).toArray) ∧ Below w.heap.size w w' :=
  seal_core a b _ (by simp [be_length]) (be2_one a b) (fun w => bytes_any a b w ha ha' hb hb') w gb L cap bl hgb hL hL' hbl h1
end Go.Proofs.YtihbngfbcnojcaaGreat
