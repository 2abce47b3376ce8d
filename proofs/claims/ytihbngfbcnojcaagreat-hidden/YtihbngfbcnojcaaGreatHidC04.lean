import Derived.Test.YtihbngfbcnojcaaGreatHidC03
import Derived.WalkSpells
import Derived.WalkLawsBesides
import Derived.Test.YtihbngfbcnojcaaGreatProg
import Derived.Lib.Strings
import Derived.Sort.Walk0
import Derived.Deep.RegionHeld3
import Derived.Deep.RegionLaw
import Derived.Lib.Overlaps
namespace Go.Proofs.YtihbngfbcnojcaaGreat
open Go.RowKit

theorem at_part {pre x post : List Value} {j : Nat} {u : Value} (h : x[j]? = some u) : (pre ++ x ++ post)[pre.length + j]? = some u := by
  have hj : j < x.length := (List.getElem?_eq_some_iff.1 h).1
  rw [List.append_assoc, List.getElem?_append_right (by omega), List.getElem?_append_left (by omega)]
  simpa using h

/-- The bytes of a number, wherever they lie. -/
theorem bytes_be {w : World} {gb off : Nat} {n : Int} {k : Nat} (h : ∀ j u, (be n k)[j]? = some u → w.cell? ⟨gb, off + j, none⟩ = some u) : BytesAt w gb off (beI n k) := by
  intro j b hj
  refine ⟨h j _ ?_, beI_range n k b (List.mem_of_getElem? hj)⟩
  rw [← beI_map, List.getElem?_map, hj]
  rfl

/-- Where the parts of an entry lie in its sector. -/
structure EntAt (w : World) (m : Nat) (e : EntV) : Prop where
  kind : BytesAt w m 8 (beI e.kind 1)
  tx : BytesAt w m (8 + 1) (beI e.tx 1)
  prev : BytesAt w m (8 + 1 + 1) (beI e.prev 2)
  next : BytesAt w m (8 + 1 + 1 + 2) (beI e.next 2)
  key : ∀ j u, (textCells e.key 8)[j]? = some u → w.cell? ⟨m, 8 + 1 + 1 + 2 + 2 + j, none⟩ = some u
  old : ∀ j u, (cellCells e.oldIs e.old)[j]? = some u → w.cell? ⟨m, 8 + 1 + 1 + 2 + 2 + (1 + 8) + j, none⟩ = some u
  new : ∀ j u, (cellCells e.newIs e.new)[j]? = some u → w.cell? ⟨m, 8 + 1 + 1 + 2 + 2 + (1 + 8) + 13 + j, none⟩ = some u

theorem sealed_body (a b : Int) (bl : List Value) {j : Nat} {u : Value} (h : bl[j]? = some u) : (sealed a b bl)[8 + j]? = some u := by
  have := at_part (pre := be a 4 ++ be b 4) (x := bl) (post := List.replicate (48 - bl.length) (Value.int .u8 0) ++ (be a 4 ++ be b 4)) h
  rw [List.length_append, be_length, be_length] at this
  rw [sealed, List.append_assoc (be a 4 ++ be b 4 ++ bl)]
  exact this

theorem entAt {w : World} {m : Nat} {a b : Int} {e : EntV} (he : e.Fits) (h : w.heap[m]? = some (.cells (sealed a b e.body).toArray 98)) : EntAt w m e := by
  have hc : ∀ i u, e.body[i]? = some u → w.cell? ⟨m, 8 + i, none⟩ = some u := fun i u hu => cell_at h (by simpa using sealed_body a b e.body hu)
  have l1 := be_length e.kind 1
  have l2 := be_length e.tx 1
  have l3 := be_length e.prev 2
  have l4 := be_length e.next 2
  have l5 := text_length e.key 8 he.key
  have l6 := cell_length e.oldIs e.old he.old
  refine ⟨bytes_be fun j u hu => ?_, bytes_be fun j u hu => ?_, bytes_be fun j u hu => ?_, bytes_be fun j u hu => ?_, fun j u hu => ?_, fun j u hu => ?_, fun j u hu => ?_⟩
  · exact hc j u (by
      have := at_part (pre := []) (x := be e.kind 1) (post := be e.tx 1 ++ be e.prev 2 ++ be e.next 2 ++ textCells e.key 8 ++ cellCells e.oldIs e.old ++ cellCells e.newIs e.new) hu
      simpa [EntV.body, List.append_assoc] using this)
  · have := hc (1 + j) u (by
      have := at_part (pre := be e.kind 1) (x := be e.tx 1) (post := be e.prev 2 ++ be e.next 2 ++ textCells e.key 8 ++ cellCells e.oldIs e.old ++ cellCells e.newIs e.new) hu
      rw [l1] at this
      simpa [EntV.body, List.append_assoc] using this)
    rw [show 8 + 1 + j = 8 + (1 + j) by omega]; exact this
  · have := hc (2 + j) u (by
      have := at_part (pre := be e.kind 1 ++ be e.tx 1) (x := be e.prev 2) (post := be e.next 2 ++ textCells e.key 8 ++ cellCells e.oldIs e.old ++ cellCells e.newIs e.new) hu
      rw [List.length_append, l1, l2] at this
      simpa only [EntV.body, List.append_assoc] using this)
    rw [show 8 + 1 + 1 + j = 8 + (2 + j) by omega]; exact this
  · have := hc (4 + j) u (by
      have := at_part (pre := be e.kind 1 ++ be e.tx 1 ++ be e.prev 2) (x := be e.next 2) (post := textCells e.key 8 ++ cellCells e.oldIs e.old ++ cellCells e.newIs e.new) hu
      rw [List.length_append, List.length_append, l1, l2, l3] at this
      simpa only [EntV.body, List.append_assoc] using this)
    rw [show 8 + 1 + 1 + 2 + j = 8 + (4 + j) by omega]; exact this
  · have := hc (6 + j) u (by
      have := at_part (pre := be e.kind 1 ++ be e.tx 1 ++ be e.prev 2 ++ be e.next 2) (x := textCells e.key 8) (post := cellCells e.oldIs e.old ++ cellCells e.newIs e.new) hu
      rw [List.length_append, List.length_append, List.length_append, l1, l2, l3, l4] at this
      simpa only [EntV.body, List.append_assoc] using this)
    rw [show 8 + 1 + 1 + 2 + 2 + j = 8 + (6 + j) by omega]; exact this
  · have := hc (15 + j) u (by
      have := at_part (pre := be e.kind 1 ++ be e.tx 1 ++ be e.prev 2 ++ be e.next 2 ++ textCells e.key 8) (x := cellCells e.oldIs e.old) (post := cellCells e.newIs e.new) hu
      rw [List.length_append, List.length_append, List.length_append, List.length_append, l1, l2, l3, l4, l5] at this
      simpa only [EntV.body, List.append_assoc] using this)
    rw [show 8 + 1 + 1 + 2 + 2 + (1 + 8) + j = 8 + (15 + j) by omega]; exact this
  · have := hc (28 + j) u (by
      have := at_part (pre := be e.kind 1 ++ be e.tx 1 ++ be e.prev 2 ++ be e.next 2 ++ textCells e.key 8 ++ cellCells e.oldIs e.old) (x := cellCells e.newIs e.new) (post := []) hu
      rw [List.length_append, List.length_append, List.length_append, List.length_append, List.length_append, l1, l2, l3, l4, l5, l6, List.append_nil] at this
      simpa only [EntV.body, List.append_assoc] using this)
    rw [show 8 + 1 + 1 + 2 + 2 + (1 + 8) + 13 + j = 8 + (28 + j) by omega]; exact this

/-- A cell that holds a byte. -/
def IsByte (u : Value) : Prop := ∃ x : Int, u = .int .u8 x ∧ 0 ≤ x ∧ x < 256
theorem be_byte (n : Int) (k : Nat) : ∀ u ∈ be n k, IsByte u := by
  induction k with
  | zero => simp [be]
  | succ k ih =>
    intro u hu
    simp only [be, List.mem_cons] at hu
    rcases hu with rfl | hu
    · exact ⟨_, rfl, by omega, by omega⟩
    · exact ih u hu
theorem str_byte (s : ByteArray) : ∀ u ∈ Lib.strCells s, IsByte u := by
  intro u hu
  simp only [Lib.strCells, List.mem_map] at hu
  obtain ⟨b, _, rfl⟩ := hu
  exact ⟨_, rfl, by omega, by have := b.toNat_lt; omega⟩
theorem rep_byte (n : Nat) : ∀ u ∈ List.replicate n (Value.int .u8 0), IsByte u := fun u hu => by rw [List.eq_of_mem_replicate hu]; exact ⟨0, rfl, by omega, by omega⟩
theorem text_byte (s : ByteArray) (r : Nat) (hs : s.size < 256) : ∀ u ∈ textCells s r, IsByte u := by
  intro u hu
  simp only [textCells, List.mem_append, List.mem_singleton] at hu
  rcases hu with (h | h) | h
  · exact ⟨_, h, by omega, by omega⟩
  · exact str_byte s u h
  · exact rep_byte _ u h
theorem cell_byte (is : Bool) (s : ByteArray) (hs : s.size < 255) : ∀ u ∈ cellCells is s, IsByte u := by
  intro u hu
  simp only [cellCells, List.mem_append, List.mem_singleton] at hu
  rcases hu with (h | h) | h
  · exact ⟨_, h, by split <;> omega, by split <;> omega⟩
  · exact str_byte s u h
  · exact rep_byte _ u h
theorem EntV.body_byte (e : EntV) (he : e.Fits) : ∀ u ∈ e.body, IsByte u := by
  intro u hu
  obtain ⟨_, _, _, _, hkey, hold, hnew⟩ := he
  simp only [EntV.body, List.mem_append] at hu
  rcases hu with (((((h | h) | h) | h) | h) | h) | h
  · exact be_byte _ _ u h
  · exact be_byte _ _ u h
  · exact be_byte _ _ u h
  · exact be_byte _ _ u h
  · exact text_byte _ _ (by omega) u h
  · exact cell_byte _ _ (by omega) u h
  · exact cell_byte _ _ (by omega) u h
theorem bytes_ints : ∀ (bl : List Value), (∀ u ∈ bl, IsByte u) → ∃ bi : List Int, u8s bi = bl ∧ ∀ x ∈ bi, 0 ≤ x ∧ x < 256
  | [], _ => ⟨[], rfl, by simp⟩
  | u :: r, h => by
    obtain ⟨x, rfl, h1, h2⟩ := h u (by simp)
    obtain ⟨bi, h3, h4⟩ := bytes_ints r (fun v hv => h v (by simp [hv]))
    exact ⟨x :: bi, by rw [← h3]; rfl, fun y hy => (List.mem_cons.1 hy).elim (fun e => by subst e; exact ⟨h1, h2⟩) (h4 y)⟩
/-- A sealed sector as numbers. -/
def sealedI (a b : Int) (bi : List Int) : List Int := (beI a 4 ++ beI b 4) ++ bi ++ List.replicate (48 - bi.length) 0 ++ (beI a 4 ++ beI b 4)
theorem u8s_append (x y : List Int) : u8s (x ++ y) = u8s x ++ u8s y := by simp [u8s]
theorem sealedI_map (a b : Int) (bi : List Int) : u8s (sealedI a b bi) = sealed a b (u8s bi) := by
  have h4 : ∀ n, u8s (beI n 4) = be n 4 := fun n => beI_map n 4
  have hr : ∀ n, u8s (List.replicate n 0) = List.replicate n (Value.int .u8 0) := fun n => by simp [u8s]
  simp only [sealedI, sealed, u8s_append, h4, hr, u8s_length]
theorem part_take (pre x post : List Int) (n : Nat) (hn : x.length = n) : ((pre ++ x ++ post).drop pre.length).take n = x := by
  rw [List.append_assoc, List.drop_left, ← hn, List.take_left]
theorem sealedI_facts (a b : Int) (bi : List Int) (ha : 0 ≤ a) (ha' : a < 4294967296) (hb : 0 ≤ b) (hb' : b < 4294967296) (hl : bi.length ≤ 48) (hr : ∀ x ∈ bi, 0 ≤ x ∧ x < 256) :
    Sec (sealedI a b bi) ∧ st1 (sealedI a b bi) = a ∧ st2 (sealedI a b bi) = b ∧ st3 (sealedI a b bi) = a ∧ st4 (sealedI a b bi) = b := by
  have la := beI_length a 4
  have lb := beI_length b 4
  have ea : ofBe (beI a 4) = a := ofBe_beI a 4 ha (by omega) (by simp; omega)
  have eb : ofBe (beI b 4) = b := ofBe_beI b 4 hb (by omega) (by simp; omega)
  refine ⟨⟨?_, ?_⟩, ?_, ?_, ?_, ?_⟩
  · simp only [sealedI, List.length_append, List.length_replicate, la, lb]; omega
  · intro x hx
    simp only [sealedI, List.mem_append] at hx
    rcases hx with (((h | h) | h) | h) | (h | h)
    · exact beI_range _ _ x h
    · exact beI_range _ _ x h
    · exact hr x h
    · rw [List.eq_of_mem_replicate h]; omega
    · exact beI_range _ _ x h
    · exact beI_range _ _ x h
  · unfold st1
    refine (congrArg ofBe ?_).trans ea
    have := part_take [] (beI a 4) (beI b 4 ++ bi ++ List.replicate (48 - bi.length) 0 ++ (beI a 4 ++ beI b 4)) 4 la
    simpa only [sealedI, List.nil_append, List.length_nil, List.drop_zero, List.append_assoc] using this
  · unfold st2
    refine (congrArg ofBe ?_).trans eb
    have := part_take (beI a 4) (beI b 4) (bi ++ List.replicate (48 - bi.length) 0 ++ (beI a 4 ++ beI b 4)) 4 lb
    rw [la] at this
    simpa only [sealedI, List.append_assoc] using this
  · unfold st3
    refine (congrArg ofBe ?_).trans ea
    have := part_take (beI a 4 ++ beI b 4 ++ bi ++ List.replicate (48 - bi.length) 0) (beI a 4) (beI b 4) 4 la
    have hq : (beI a 4 ++ beI b 4 ++ bi ++ List.replicate (48 - bi.length) 0).length = 56 := by simp only [List.length_append, List.length_replicate, la, lb]; omega
    rw [hq] at this
    simpa only [sealedI, List.append_assoc] using this
  · unfold st4
    refine (congrArg ofBe ?_).trans eb
    have := part_take (beI a 4 ++ beI b 4 ++ bi ++ List.replicate (48 - bi.length) 0 ++ beI a 4) (beI b 4) [] 4 lb
    have hq : (beI a 4 ++ beI b 4 ++ bi ++ List.replicate (48 - bi.length) 0 ++ beI a 4).length = 60 := by simp only [List.length_append, List.length_replicate, la, lb]; omega
    rw [hq] at this
    simpa only [sealedI, List.append_assoc, List.append_nil] using this

theorem unseal_any (a b : Int) (bl : List Value) (w : World) (ha : 0 ≤ a) (ha' : a < 4294967295) (hb : 0 ≤ b) (hb' : b < 4294967296) (hl : bl.length ≤ 48) (h1 : ∀ u ∈ bl, IsByte u) :
    Calls Tryz.prog 151 #[.agg (sealed a b bl).toArray] w fun e w' => e = .returned (.tuple #[.agg #[.int .u32 a, .int .u32 b], .slice (some ⟨w.heap.size, 8, none⟩) 48 56, .bool true]) ∧
      w'.heap[w.heap.size]? = some (.cells (sealed a b bl).toArray 98) ∧ Below w.heap.size w w' := by
  obtain ⟨bi, rfl, hr⟩ := bytes_ints bl h1
  rw [u8s_length] at hl
  obtain ⟨h0, e1, e2, e3, e4⟩ := sealedI_facts a b bi ha (by omega) hb hb' hl hr
  refine (unseal_gen (sealedI a b bi) h0 w false false (by rw [e1, e2, e3, e4]; simp) (by rw [e1, e2]; simp; omega)).mono ?_ |> fun h => by rw [← sealedI_map]; exact h
  rintro e w' ⟨hB, hok, _⟩
  obtain ⟨h2, h3⟩ := hok ⟨rfl, rfl⟩
  rw [e1, e2] at h2
  exact ⟨h2, h3, hB⟩
end Go.Proofs.YtihbngfbcnojcaaGreat

namespace Go.Proofs.YtihbngfbcnojcaaGreat
open Go.RowKit

abbrev Pairs := List (ByteArray × ByteArray)
def pairCells (ps : Pairs) : List Value := ps.flatMap fun p => [.string p.1, .string p.2]
theorem pairCells_length (ps : Pairs) : (pairCells ps).length = ps.length * 2 := by
  induction ps with
  | nil => rfl
  | cons p r ih => simp only [pairCells, List.flatMap_cons, List.length_append, List.length_cons, List.length_nil] at *; omega
theorem pairCells_append (ps qs : Pairs) : pairCells (ps ++ qs) = pairCells ps ++ pairCells qs := by simp [pairCells]
theorem pairCells_at : ∀ (ps : Pairs) (i : Nat) (p : ByteArray × ByteArray), ps[i]? = some p → (pairCells ps)[i * 2]? = some (.string p.1) ∧ (pairCells ps)[i * 2 + 1]? = some (.string p.2)
  | [], i, p, h => by simp at h
  | q :: r, 0, p, h => by simp at h; subst h; simp [pairCells]
  | q :: r, i + 1, p, h => by
    have := pairCells_at r i p (by simpa using h)
    simp only [pairCells, List.flatMap_cons, Nat.succ_mul, List.cons_append, List.nil_append, Nat.add_assoc] at *
    exact ⟨this.1, this.2⟩

/-- The cells of an owned row, one by one. -/
theorem owns_cell {w : World} {base : Nat} {e : TypeId} {size n : Nat} {g cap : Nat} {xs : List Value} (h : w.ownsRow base e size (.slice (some ⟨g, 0, none⟩) n cap) n xs) {j : Nat} {u : Value} (hu : xs[j]? = some u) : w.cell? ⟨g, j, none⟩ = some u := by
  rcases h.2 with ⟨h1, _⟩ | ⟨g', cap', cur, h1, h2, h3, h4, h5, h6, h7⟩
  · cases h1
  · simp at h1
    obtain ⟨rfl, rfl⟩ := h1
    refine cell_at h3 ?_
    rw [← h7, List.getElem?_take] at hu
    split at hu
    · simpa using hu
    · cases hu
theorem owns_some {w : World} {base : Nat} {e : TypeId} {size n : Nat} {v : Value} {xs : List Value} (h : w.ownsRow base e size v n xs) (hn : 0 < n) : ∃ g cap, v = .slice (some ⟨g, 0, none⟩) n cap := by
  rcases h.2 with ⟨_, h⟩ | ⟨g, cap, cur, h, _⟩
  · omega
  · exact ⟨g, cap, h⟩
theorem owns_slice' {w : World} {base : Nat} {e : TypeId} {size n : Nat} {v : Value} {xs : List Value} (h : w.ownsRow base e size v n xs) : ∃ p cap, v = .slice p n cap ∧ n ≤ maxLen := by
  rcases h.2 with ⟨h, h0⟩ | ⟨g, cap, cur, h, _, _, h1, h2, _⟩
  · exact ⟨none, 0, by rw [h, h0], by omega⟩
  · exact ⟨some ⟨g, 0, none⟩, cap, h, by omega⟩
theorem owns_below {w w' : World} {B base : Nat} {e : TypeId} {size n : Nat} {v : Value} {xs : List Value} (h : w.ownsRow base e size v n xs) (hb : Below B w w') (hB : ∀ g, v.ownBlock = some g → g < B) : w'.ownsRow base e size v n xs := by
  refine ⟨h.1, ?_⟩
  rcases h.2 with h1 | ⟨g, cap, cur, h1, h2, h3, h4⟩
  · exact .inl h1
  · refine .inr ⟨g, cap, cur, h1, h2, ?_, h4⟩
    rw [hb.block g (hB g (by rw [h1]; rfl))]; exact h3
theorem owns_base {w : World} {base base' : Nat} {e : TypeId} {size n : Nat} {v : Value} {xs : List Value} (h : w.ownsRow base e size v n xs) (hb : base' ≤ base) : w.ownsRow base' e size v n xs := by
  refine ⟨h.1, ?_⟩
  rcases h.2 with h1 | ⟨g, cap, cur, h1, h2, h3⟩
  · exact .inl h1
  · exact .inr ⟨g, cap, cur, h1, by omega, h3⟩
end Go.Proofs.YtihbngfbcnojcaaGreat

namespace Go.Proofs.YtihbngfbcnojcaaGreat
open Go.RowKit

theorem toList_inj {a b : ByteArray} (h : a.toList = b.toList) : a = b := by
  rw [Lib.toList_data, Lib.toList_data] at h
  exact ByteArray.ext (Array.ext' h)
theorem toList_ne {a b : ByteArray} (h : a ≠ b) : (a.toList == b.toList) = false := by
  simp only [beq_eq_false_iff_ne, ne_eq]
  exact fun e => h (toList_inj e)

/-- What stands under a key. -/
def under : Pairs → ByteArray → Bool × ByteArray
  | [], _ => (false, ByteArray.empty)
  | p :: r, k => if p.1 = k then (true, p.2) else under r k

set_option maxHeartbeats 1000000 in
theorem under_any (base : Nat) (v : Value) (ps : Pairs) (key : ByteArray) (w : World) (hown : w.ownsRow base 43 2 v ps.length (pairCells ps)) :
    Calls Tryz.prog 136 #[v, .string key] w fun e w' => e = .returned (.agg #[.bool (under ps key).1, .string (under ps key).2]) ∧ Below w.heap.size w w' := by
  obtain ⟨p, cap, rfl, hmax⟩ := owns_slice' hown
  unfold maxLen at hmax
  go_enter Tryz.func136, Tryz.ntmps136
  go_wp2
  have hnew := heap_alloc_new w (.cells #[.bool false, .string ByteArray.empty] 38)
  have hB : Below w.heap.size w (w.alloc (.cells #[.bool false, .string ByteArray.empty] 38)) := (Below.refl _ _).alloc (Nat.le_refl _) _
  have hown1 := hown.alloc (.cells #[.bool false, .string ByteArray.empty] 38)
  change Code.wp _ _ _ _ (w.alloc (.cells #[.bool false, .string ByteArray.empty] 38))
  revert hnew hB hown1
  generalize w.alloc (.cells #[.bool false, .string ByteArray.empty] 38) = w1
  intro hnew hB hown1
  have n0 : w1.cell? ⟨w.heap.size, 0, none⟩ = some (.bool false) := cell_at hnew rfl
  have n1 : w1.cell? ⟨w.heap.size, 1, none⟩ = some (.string ByteArray.empty) := cell_at hnew rfl
  have f0 := frozen_at 0 hnew
  have f1 := frozen_at 1 hnew
  have HN : Hid (w1.heap[w.heap.size]? = some (.cells #[.bool false, .string ByteArray.empty] 38 (0, 0))) := hnew
  have HB : Hid (Below w.heap.size w w1) := hB
  clear hnew hB hown
  go_loopw [5] (fun i wr => ∃ k : Nat, k ≤ ps.length ∧ i = .int .i64 k ∧ wr = w1 ∧ under ps key = under (ps.drop k) key) (fun i _ => ps.length - (intOf i).toNat)
  case atStart => exact ⟨0, by omega, rfl, rfl, by simp⟩
  case round =>
    obtain ⟨k, hk, rfl, rfl, hu⟩ := hrel
    by_cases hlt : k < ps.length
    · have hlt' : (k : Int) < (ps.length : Int) := by omega
      obtain ⟨g, cap', he⟩ := owns_some hown1 (by omega)
      simp only [Value.slice.injEq] at he
      obtain ⟨rfl, -, rfl⟩ := he
      obtain ⟨hc0, hc1⟩ := pairCells_at ps k ps[k] (List.getElem?_eq_getElem hlt)
      have c0 := owns_cell hown1 hc0
      have c1 := owns_cell hown1 hc1
      have hu1 : under ps key = if ps[k].1 = key then (true, ps[k].2) else under (ps.drop (k + 1)) key := by
        rw [hu, List.drop_eq_getElem_cons hlt]; rfl
      clear hu hc0 hc1
      generalize ps[k] = pk at c0 c1 hu1
      obtain ⟨k0, v0⟩ := pk
      simp only at c0 c1 hu1
      by_cases hkey : k0 = key
      · subst hkey
        rw [if_pos rfl] at hu1
        have HF : Hid (((wr.setCell ⟨w.heap.size, 0, none⟩ (.bool true)).setCell ⟨w.heap.size, 1, none⟩ (.string v0)).heap[w.heap.size]? = some (.cells #[.bool true, .string v0] 38 (0, 0))) := by
          exact (setCell_at _ _ 1 _ _ _ (setCell_at _ _ 0 _ _ _ HN.out)).trans rfl
        go_wp2
        refine bodyPost_ret (v := .agg #[.bool true, .string v0]) ?_ rfl ⟨by rw [hu1], ?_⟩
        · exact results_cell_row Tryz.results136 _ _ w.heap.size 38 #[.bool true, .string v0] (0, 0) _ rfl HF.out Tryz.underlying38 rfl (by kernel_rfl)
        · exact (HB.out.setCell (p := ⟨w.heap.size, 0, none⟩) (Nat.le_refl _) _).setCell (p := ⟨w.heap.size, 1, none⟩) (Nat.le_refl _) _
      · rw [if_neg hkey] at hu1
        have hke := toList_ne hkey
        go_wp2
        exact ⟨⟨k + 1, by omega, by simp, trivial, hu1⟩, by simp [intOf]; omega⟩
    · have hlt' : ¬ (k : Int) < (ps.length : Int) := by omega
      have hu1 : under ps key = (false, ByteArray.empty) := by rw [hu, List.drop_eq_nil_of_le (by omega)]; rfl
      clear hu
      have HF : Hid (((wr.setCell ⟨w.heap.size, 0, none⟩ (.bool false)).setCell ⟨w.heap.size, 1, none⟩ (.string ByteArray.empty)).heap[w.heap.size]? = some (.cells #[.bool false, .string ByteArray.empty] 38 (0, 0))) := by
          exact (setCell_at _ _ 1 _ _ _ (setCell_at _ _ 0 _ _ _ HN.out)).trans rfl
      go_wp2
      refine bodyPost_ret (v := .agg #[.bool false, .string ByteArray.empty]) ?_ rfl ⟨by first | rfl | rw [hu1], ?_⟩
      · exact results_cell_row Tryz.results136 _ _ w.heap.size 38 #[.bool false, .string ByteArray.empty] (0, 0) _ rfl HF.out Tryz.underlying38 rfl (by kernel_rfl)
      · exact (HB.out.setCell (p := ⟨w.heap.size, 0, none⟩) (Nat.le_refl _) _).setCell (p := ⟨w.heap.size, 1, none⟩) (Nat.le_refl _) _

/-- One round of With: what came out so far, and whether the key is done. -/
def withStep (key val : ByteArray) (st : Pairs × Bool) (p : ByteArray × ByteArray) : Pairs × Bool :=
  let st1 := if st.2 = false ∧ (key.toList < p.1.toList ∨ key = p.1) then (st.1 ++ [(key, val)], true) else st
  if p.1 = key then st1 else (st1.1 ++ [p], st1.2)
def withFold (l : Pairs) (key val : ByteArray) (is : Bool) : Pairs × Bool := l.foldl (withStep key val) ([], !is)
/-- The pairs, with another cell under a key. -/
def withL (l : Pairs) (key : ByteArray) (is : Bool) (val : ByteArray) : Pairs :=
  let st := withFold l key val is
  if st.2 then st.1 else st.1 ++ [(key, val)]

theorem infoPair : (Tryz.prog.info? 43).map (fun i => (i.zero, i.size, i.bytes)) = some (some (.agg #[.string ByteArray.empty, .string ByteArray.empty]), 2, 32) := by kernel_rfl

def withAt (ps : Pairs) (key val : ByteArray) (is : Bool) (k : Nat) : Pairs × Bool := (ps.take k).foldl (withStep key val) ([], !is)
theorem withAt_succ (ps : Pairs) (key val : ByteArray) (is : Bool) (k : Nat) (h : k < ps.length) : withAt ps key val is (k + 1) = withStep key val (withAt ps key val is k) ps[k] := by
  simp only [withAt]
  rw [List.take_succ_eq_append_getElem h, List.foldl_append]
  rfl
theorem withStep_length (key val : ByteArray) (st : Pairs × Bool) (p : ByteArray × ByteArray) : (withStep key val st p).1.length ≤ st.1.length + 2 := by
  unfold withStep
  simp only
  split <;> split <;> simp
theorem withAt_length (ps : Pairs) (key val : ByteArray) (is : Bool) : ∀ k, k ≤ ps.length → (withAt ps key val is k).1.length ≤ 2 * k
  | 0, _ => by simp [withAt]
  | k + 1, h => by
    rw [withAt_succ ps key val is k (by omega)]
    have := withStep_length key val (withAt ps key val is k) ps[k]
    have := withAt_length ps key val is k (by omega)
    omega
theorem leq_of_not_lt {a b : ByteArray} (h : ¬ a.toList < b.toList) : Op.bytesLess a.toList b.toList = false := by
  rw [bytesLess_eq]; simpa using h
theorem lt_of_lt {a b : ByteArray} (h : a.toList < b.toList) : Op.bytesLess a.toList b.toList = true := by
  rw [bytesLess_eq]; simpa using h
theorem grown_below {w w' : World} {B base : Nat} {e : TypeId} {size n : Nat} {v : Value} {xs : List Value} (hg : w.grownBy w' v.ownBlock) (ho : w.ownsRow base e size v n xs) (hB : B ≤ base) (hs : B ≤ w.heap.size) : Below B w w' :=
  ⟨hg.os, hg.tape, hg.output, hg.size, fun k hk => hg.block k (by omega) (fun h => by have := (ho.lt k h.symm).1; omega)⟩
theorem add_zero0 (g j : Nat) : (⟨g, 0, none⟩ : Addr).add j = ⟨g, j, none⟩ := by unfold Addr.add; split <;> simp_all
/-- One pair more in a row. -/
theorem pairs_snoc {w : World} {base : Nat} {v : Value} {l : Pairs} {a b : ByteArray} (h : w.ownsRow base 43 2 v (l.length + 1) (pairCells l ++ [.string a, .string b])) : w.ownsRow base 43 2 v (l ++ [(a, b)]).length (pairCells (l ++ [(a, b)])) := by
  rw [pairCells_append, List.length_append]; exact h

/-- 'append(l, api.Pair{..})' to a row of the call's own. -/
theorem wpList_append_pair {ops : Array Oper} {rest : List Oper} {o : Oper} {ac : Act} {w : World} {Q : Exit → Act → World → Prop} (hgd : o.guard = none) (s x : Operand)
    (ho : o.op = .call { callee := .builtin .append, args := #[s, x], argTypes := #[34, 34] }) (base : Nat) (v : Value) (l : Pairs) (hs : ac.eval s = v) (hown : w.ownsRow base 43 2 v l.length (pairCells l))
    (g : Nat) (a b : ByteArray) (hx : ac.eval x = .slice (some ⟨g, 0, none⟩) 1 1) (hg : w.heap[g]? = some (.cells #[.string a, .string b] 43 (0, 0))) (hlen : l.length ≤ 1000000) (hbase : base ≤ w.heap.size)
    (h : ∀ v' w', w'.ownsRow base 43 2 v' (l ++ [(a, b)]).length (pairCells (l ++ [(a, b)])) → Below base w w' → wpList Tryz.prog ops Q rest (ac.put o.dst v') w') : wpList Tryz.prog ops Q (o :: rest) ac w := by
  obtain ⟨i0, hi, hz0, hz1, hz2⟩ := info_parts infoPair
  refine wpList_append_own_at w hgd s x 34 ho base 43 i0 _ 2 32 Tryz.underlying34 hi hz0 hz1 hz2 rfl (by decide) v l.length (pairCells l) hs hown ⟨g, 0, none⟩ 1 1 [.string a, .string b] hx rfl (fun j u hu => by rw [add_zero0]; exact cell_at hg (by simpa using hu)) (fun x hx => by simp at hx; rcases hx with rfl | rfl <;> rfl) (by unfold maxLen; omega) (by omega) hbase ?_
  intro v' w' h1 h2 _ _
  exact h v' w' (pairs_snoc h1) (grown_below h2 hown (Nat.le_refl _) hbase)

set_option maxRecDepth 100000 in
set_option maxHeartbeats 1000000 in
theorem with_any (base : Nat) (v : Value) (ps : Pairs) (key : ByteArray) (is : Bool) (val : ByteArray) (w : World) (hown : w.ownsRow base 43 2 v ps.length (pairCells ps)) (hlen : ps.length ≤ 100000) :
    Calls Tryz.prog 134 #[v, .string key, .agg #[.bool is, .string val]] w fun e w' => ∃ v', e = .returned v' ∧ w'.ownsRow w.heap.size 43 2 v' (withL ps key is val).length (pairCells (withL ps key is val)) ∧ Below w.heap.size w w' := by
  obtain ⟨p, cap, rfl, hmax⟩ := owns_slice' hown
  clear hmax
  go_enter Tryz.func134, Tryz.ntmps134
  go_wp2
  have hB : Below w.heap.size w (w.alloc (.cells #[.bool is, .string val] 38)) := (Below.refl _ _).alloc (Nat.le_refl _) _
  have hnew := heap_alloc_new w (.cells #[.bool is, .string val] 38)
  have hown1 := hown.alloc (.cells #[.bool is, .string val] 38)
  have hz : (w.alloc (.cells #[.bool is, .string val] 38)).heap.size = w.heap.size + 1 := by simp
  have hlt0 : ∀ g, (Value.slice p ps.length cap).ownBlock = some g → g < w.heap.size := fun g hg => (hown.lt g hg).2
  revert hB hnew hown1 hz
  generalize w.alloc (.cells #[.bool is, .string val] 38) = w1
  intro hB hnew hown1 hz
  clear hown
  go_loopw [7, 8, 9] (fun u d i wr => ∃ k : Nat, k ≤ ps.length ∧ i = .int .i64 k ∧ d = .bool (withAt ps key val is k).2 ∧ wr.ownsRow (w.heap.size + 1) 43 2 u (withAt ps key val is k).1.length (pairCells (withAt ps key val is k).1) ∧ Below (w.heap.size + 1) w1 wr) (fun _ _ i _ => ps.length - (intOf i).toNat)
  case atStart => exact ⟨0, by omega, rfl, rfl, World.ownsRow_nil _ _ _ _, Below.refl _ _⟩
  case round =>
    obtain ⟨k, hk, rfl, rfl, hout, hbr⟩ := hrel
    have hsz := hbr.size
    have hownr : wr.ownsRow base 43 2 (.slice p ps.length cap) ps.length (pairCells ps) := owns_below hown1 hbr (fun g hg => by have := hlt0 g hg; omega)
    have c5 : wr.cell? ⟨w.heap.size, 1, none⟩ = some (.string val) := (hbr.cell (by simp)).trans (cell_at hnew rfl)
    have HBR : Hid (Below (w.heap.size + 1) w1 wr) := hbr
    by_cases hlt : k < ps.length
    · have hlt' : (k : Int) < (ps.length : Int) := by omega
      obtain ⟨g, cap', he⟩ := owns_some hownr (by omega)
      simp only [Value.slice.injEq] at he
      obtain ⟨rfl, -, rfl⟩ := he
      obtain ⟨hc0, hc1⟩ := pairCells_at ps k ps[k] (List.getElem?_eq_getElem hlt)
      have c0 := owns_cell hownr hc0
      have c1 := owns_cell hownr hc1
      have hL := withAt_length ps key val is k (by omega)
      have hS := withAt_succ ps key val is k hlt
      have hgl : g < w.heap.size := hlt0 g rfl
      clear hc0 hc1 hbr
      generalize ps[k] = pk at c0 c1 hS
      obtain ⟨k0, v0⟩ := pk
      simp only at c0 c1
      have HS : Hid (withAt ps key val is (k + 1) = withStep key val (withAt ps key val is k) (k0, v0)) := hS
      clear hS
      generalize withAt ps key val is k = st at hout hL HS
      obtain ⟨out, dn⟩ := st
      simp only at hout hL
      have tok1 : True := trivial
      have tok2 : True := trivial
      cases dn with
      | true =>
        by_cases he : k0 = key
        · have hw' : withStep key val (out, true) (k0, v0) = (out, true) := by simp [withStep, he]
          subst he
          go_wp2
          refine ⟨⟨k + 1, by omega, by simp, ?_, ?_, HBR.out⟩, by simp [intOf]; omega⟩
          · rw [HS.out, hw']
          · rw [HS.out, hw']; exact hout
        · have hw' : withStep key val (out, true) (k0, v0) = (out ++ [(k0, v0)], true) := by simp [withStep, he]
          have he' := toList_ne he
          go_wp2_with (first
            | (at_builtin; have _t := tok2; go_must (
                refine wpList_append_pair rfl _ _ rfl (w.heap.size + 1) _ out rfl (hout.alloc _) wr.heap.size k0 v0 rfl (heap_alloc_new _ _) (by omega) (by simp; omega) ?_
                intro v5 w5 hown5 hb5
                have HB5 : Hid (Below (w.heap.size + 1) w1 w5) := HBR.out.trans (((Below.refl _ _).alloc (by omega) _).trans hb5)
                clear hb5 tok2)))
          refine ⟨⟨k + 1, by omega, by simp, ?_, ?_, HB5.out⟩, by simp [intOf]; omega⟩
          · rw [HS.out, hw']
          · rw [HS.out, hw']; exact hown5
      | false =>
        by_cases he : k0 = key
        · have he2 := he.symm
          subst he2
          have hw' : withStep key val (out, false) (key, v0) = (out ++ [(key, val)], true) := by simp [withStep]
          go_wp2_with (first
            | (at_builtin; have _t := tok1; go_must (
                refine wpList_append_pair rfl _ _ rfl (w.heap.size + 1) _ out rfl (hout.alloc _) wr.heap.size key val rfl (heap_alloc_new _ _) (by omega) (by simp; omega) ?_
                intro v4 w4 hown4 hb4'
                have hb4 : Below (w.heap.size + 1) wr w4 := ((Below.refl _ _).alloc (by omega) _).trans hb4'
                have HB4 : Hid (Below (w.heap.size + 1) w1 w4) := HBR.out.trans hb4
                have d0 : w4.cell? ⟨g, k * 2, none⟩ = some (.string key) := (hb4.cell (by simp; omega)).trans c0
                have d1 : w4.cell? ⟨g, k * 2 + 1, none⟩ = some (.string v0) := (hb4.cell (by simp; omega)).trans c1
                have hs4 := hb4.size
                clear hb4 hb4' tok1)))
          refine ⟨⟨k + 1, by omega, by simp, ?_, ?_, HB4.out⟩, by simp [intOf]; omega⟩
          · rw [HS.out, hw']
          · rw [HS.out, hw']; exact hown4
        · have he' := toList_ne he
          have he3 := toList_ne (Ne.symm he)
          by_cases hl : key.toList < k0.toList
          · have hl' := lt_of_lt hl
            have hw' : withStep key val (out, false) (k0, v0) = (out ++ [(key, val)] ++ [(k0, v0)], true) := by simp [withStep, he, hl]
            go_wp2_with (first
              | (at_builtin; have _t := tok1; go_must (
                refine wpList_append_pair rfl _ _ rfl (w.heap.size + 1) _ out rfl (hout.alloc _) wr.heap.size key val rfl (heap_alloc_new _ _) (by omega) (by simp; omega) ?_
                intro v4 w4 hown4 hb4'
                have hb4 : Below (w.heap.size + 1) wr w4 := ((Below.refl _ _).alloc (by omega) _).trans hb4'
                have HB4 : Hid (Below (w.heap.size + 1) w1 w4) := HBR.out.trans hb4
                have d0 : w4.cell? ⟨g, k * 2, none⟩ = some (.string k0) := (hb4.cell (by simp; omega)).trans c0
                have d1 : w4.cell? ⟨g, k * 2 + 1, none⟩ = some (.string v0) := (hb4.cell (by simp; omega)).trans c1
                have hs4 := hb4.size
                clear hb4 hb4' tok1))
              | (at_builtin; have _t := tok2; go_must (
                refine wpList_append_pair rfl _ _ rfl (w.heap.size + 1) _ (out ++ [(key, val)]) rfl (hown4.alloc _) w4.heap.size k0 v0 rfl (heap_alloc_new _ _) (by simp; omega) (by simp; omega) ?_
                intro v5 w5 hown5 hb5
                have HB5 : Hid (Below (w.heap.size + 1) w1 w5) := HB4.out.trans (((Below.refl _ _).alloc (by omega) _).trans hb5)
                clear hb5 tok2)))
            refine ⟨⟨k + 1, by omega, by simp, ?_, ?_, HB5.out⟩, by simp [intOf]; omega⟩
            · rw [HS.out, hw']
            · rw [HS.out, hw']; exact hown5
          · have hl' := leq_of_not_lt hl
            have hw' : withStep key val (out, false) (k0, v0) = (out ++ [(k0, v0)], false) := by simp [withStep, he, hl, Ne.symm he]
            go_wp2_with (first
              | (at_builtin; have _t := tok2; go_must (
                refine wpList_append_pair rfl _ _ rfl (w.heap.size + 1) _ out rfl (hout.alloc _) wr.heap.size k0 v0 rfl (heap_alloc_new _ _) (by omega) (by simp; omega) ?_
                intro v5 w5 hown5 hb5
                have HB5 : Hid (Below (w.heap.size + 1) w1 w5) := HBR.out.trans (((Below.refl _ _).alloc (by omega) _).trans hb5)
                clear hb5 tok2)))
            refine ⟨⟨k + 1, by omega, by simp, ?_, ?_, HB5.out⟩, by simp [intOf]; omega⟩
            · rw [HS.out, hw']
            · rw [HS.out, hw']; exact hown5
    · have hlt' : ¬ (k : Int) < (ps.length : Int) := by omega
      have hkk : k = ps.length := by omega
      have hw' : withL ps key is val = if (withAt ps key val is k).2 then (withAt ps key val is k).1 else (withAt ps key val is k).1 ++ [(key, val)] := by
        subst hkk; simp only [withL, withFold, withAt, List.take_length]; rfl
      have hL := withAt_length ps key val is k (by omega)
      have HW : Hid (withL ps key is val = if (withAt ps key val is k).2 then (withAt ps key val is k).1 else (withAt ps key val is k).1 ++ [(key, val)]) := hw'
      clear hw' hbr
      generalize withAt ps key val is k = st at hout hL HW
      obtain ⟨out, dn⟩ := st
      simp only at hout hL
      cases dn with
      | true =>
        go_wp2
        go_ret
        refine ⟨_, rfl, ?_, hB.trans (HBR.out.mono (by omega))⟩
        rw [HW.out]; exact owns_base hout (by omega)
      | false =>
        have tok1 : True := trivial
        go_wp2_with (first
          | (at_builtin; have _t := tok1; go_must (
                refine wpList_append_pair rfl _ _ rfl (w.heap.size + 1) _ out rfl (hout.alloc _) wr.heap.size key val rfl (heap_alloc_new _ _) (by omega) (by simp; omega) ?_
                intro v4 w4 hown4 hb4'
                have HB4 : Hid (Below (w.heap.size + 1) w1 w4) := HBR.out.trans (((Below.refl _ _).alloc (by omega) _).trans hb4')
                clear hb4' tok1)))
        go_ret
        refine ⟨_, rfl, ?_, hB.trans (HB4.out.mono (by omega))⟩
        rw [HW.out]; exact owns_base hown4 (by omega)
end Go.Proofs.YtihbngfbcnojcaaGreat

namespace Go.Proofs.YtihbngfbcnojcaaGreat
open Go.RowKit

/-- The order of keys: as strings of bytes. -/
def blt (a b : ByteArray) : Prop := a.toList < b.toList
theorem blt_irrefl (a : ByteArray) : ¬ blt a a := List.lt_irrefl _
theorem blt_trans {a b c : ByteArray} (h : blt a b) (k : blt b c) : blt a c := List.lt_trans h k
theorem blt_tri {a b : ByteArray} (h : ¬ blt a b) (k : ¬ blt b a) : a = b := toList_inj (List.le_antisymm (List.not_lt.1 k) (List.not_lt.1 h))
theorem less_yes {a b : ByteArray} (h : blt a b) : Op.bytesLess a.toList b.toList = true := lt_of_lt h
theorem less_no {a b : ByteArray} (h : ¬ blt a b) : Op.bytesLess a.toList b.toList = false := leq_of_not_lt h

def cmpStr (a b : ByteArray) : Int := if a.toList < b.toList then -1 else if b.toList < a.toList then 1 else 0
theorem cmp_lt {a b : ByteArray} (h : blt a b) : cmpStr a b = -1 := if_pos h
theorem cmp_gt {a b : ByteArray} (h : ¬ blt a b) (k : blt b a) : cmpStr a b = 1 := (if_neg h).trans (if_pos k)
theorem cmp_eq {a b : ByteArray} (h : ¬ blt a b) (k : ¬ blt b a) : cmpStr a b = 0 := (if_neg h).trans (if_neg k)

set_option maxHeartbeats 1000000 in
theorem isNaN_any (a : ByteArray) (w : World) : Calls Tryz.prog 234 #[.string a] w fun e w' => e = .returned (.bool false) ∧ w = w' := by
  have e1 : (a.toList == a.toList) = true := by simp
  go_enter Tryz.func234, Tryz.ntmps234
  go_wp2
  go_ret
  exact ⟨rfl, rfl⟩

set_option maxHeartbeats 1000000 in
theorem compareStr_any (a b : ByteArray) (w : World) : Calls Tryz.prog 206 #[.string a, .string b] w fun e w' => e = .returned (.int .i64 (cmpStr a b)) ∧ w = w' := by
  by_cases h1 : blt a b
  · have e1 := less_yes h1
    have ec : cmpStr a b = -1 := cmp_lt h1
    go_enter Tryz.func206, Tryz.ntmps206
    go_wp2_with (first | (go_at_call 234; refine (isNaN_any _ _).mono ?_; rintro e w' ⟨rfl, rfl⟩))
    go_ret
    exact ⟨by rw [ec]; rfl, rfl⟩
  · have e1 := less_no h1
    by_cases h2 : blt b a
    · have e2 := less_yes h2
      have ec : cmpStr a b = 1 := cmp_gt h1 h2
      have hne : a ≠ b := fun h => by subst h; exact h1 h2
      have e3 := toList_ne hne
      go_enter Tryz.func206, Tryz.ntmps206
      go_wp2_with (first | (go_at_call 234; refine (isNaN_any _ _).mono ?_; rintro e w' ⟨rfl, rfl⟩))
      go_ret
      exact ⟨by rw [ec]; rfl, rfl⟩
    · have e2 := less_no h2
      have ec : cmpStr a b = 0 := cmp_eq h1 h2
      have := blt_tri h1 h2
      subst this
      go_enter Tryz.func206, Tryz.ntmps206
      go_wp2_with (first | (go_at_call 234; refine (isNaN_any _ _).mono ?_; rintro e w' ⟨rfl, rfl⟩))
      go_ret
      exact ⟨by rw [ec]; rfl, rfl⟩

set_option maxHeartbeats 1000000 in
theorem byKey_any (a v b : ByteArray) (w : World) : Calls Tryz.prog 158 #[.agg #[.string a, .string v], .string b] w fun e w' => e = .returned (.int .i64 (cmpStr a b)) ∧ Below w.heap.size w w' := by
  go_enter Tryz.func158, Tryz.ntmps158
  go_wp2_with (first | (go_at_call 206; refine (compareStr_any _ _ _).mono ?_; rintro e w' ⟨rfl, rfl⟩))
  go_ret
  exact ⟨rfl, (Below.refl _ _).alloc (Nat.le_refl _) _⟩

def RisingAt (ps : Pairs) : Prop := ∀ i j (hi : i < ps.length) (hj : j < ps.length), i < j → blt ps[i].1 ps[j].1
/-- The place of a key among rising ones. -/
def PosAt (ps : Pairs) (key : ByteArray) (i : Nat) : Prop := i ≤ ps.length ∧ (∀ m (h : m < ps.length), m < i → blt ps[m].1 key) ∧ (∀ m (h : m < ps.length), i ≤ m → ¬ blt ps[m].1 key)
def foundAt (ps : Pairs) (key : ByteArray) (i : Nat) : Bool := if h : i < ps.length then decide (ps[i].1 = key) else false

set_option maxRecDepth 100000 in
set_option maxHeartbeats 1000000 in
theorem search_any (base : Nat) (v : Value) (ps : Pairs) (key : ByteArray) (w : World) (hown : w.ownsRow base 43 2 v ps.length (pairCells ps)) (hlen : ps.length ≤ 100000) (hr : RisingAt ps) :
    Calls Tryz.prog 157 #[v, .string key, .func (.func 158) #[] #[]] w fun e w' => ∃ i : Nat, PosAt ps key i ∧ e = .returned (.tuple #[.int .i64 i, .bool (foundAt ps key i)]) ∧ Below w.heap.size w w' := by
  obtain ⟨p, cap, rfl, hmax⟩ := owns_slice' hown
  clear hmax
  have hlt0 : ∀ g, (Value.slice p ps.length cap).ownBlock = some g → g < w.heap.size := fun g hg => (hown.lt g hg).2
  go_enter Tryz.func157, Tryz.ntmps157
  go_wp2
  go_loopw [9, 10] (fun i j wr => ∃ a b : Nat, a ≤ b ∧ b ≤ ps.length ∧ i = .int .i64 a ∧ j = .int .i64 b ∧ (∀ m (h : m < ps.length), m < a → blt ps[m].1 key) ∧ (∀ m (h : m < ps.length), b ≤ m → ¬ blt ps[m].1 key) ∧ Below w.heap.size w wr) (fun i j _ => (intOf j).toNat - (intOf i).toNat)
  case atStart => exact ⟨0, ps.length, by omega, by omega, rfl, rfl, fun m h h2 => by omega, fun m h h2 => by omega, Below.refl _ _⟩
  case round =>
    obtain ⟨a, b, hab, hbl, rfl, rfl, hlo, hhi, hbr⟩ := hrel
    have HBR : Hid (Below w.heap.size w wr) := hbr
    have hownr : wr.ownsRow base 43 2 (.slice p ps.length cap) ps.length (pairCells ps) := owns_below hown hbr hlt0
    have HLO : Hid (∀ m (h : m < ps.length), m < a → blt ps[m].1 key) := hlo
    have HHI : Hid (∀ m (h : m < ps.length), b ≤ m → ¬ blt ps[m].1 key) := hhi
    have HR : Hid (RisingAt ps) := hr
    clear hlo hhi hbr
    by_cases hlt : a < b
    · have hlt' : (a : Int) < (b : Int) := by omega
      obtain ⟨m, hm1, ham, hmb⟩ : ∃ m : Nat, ((a : Int) + (b : Int)) / 2 = (m : Int) ∧ a ≤ m ∧ m < b := ⟨(a + b) / 2, by omega, by omega, by omega⟩
      have hmn : m < ps.length := by omega
      have hmn' : (m : Int) < (ps.length : Int) := by omega
      obtain ⟨g, cap', he⟩ := owns_some hownr (by omega)
      simp only [Value.slice.injEq] at he
      obtain ⟨rfl, -, rfl⟩ := he
      obtain ⟨hc0, hc1⟩ := pairCells_at ps m ps[m] (List.getElem?_eq_getElem hmn)
      have c0 := owns_cell hownr hc0
      have c1 := owns_cell hownr hc1
      clear hc0 hc1
      by_cases hq : blt ps[m].1 key
      · have hneg : cmpStr ps[m].1 key < 0 := by rw [cmp_lt hq]; decide
        have HQ : Hid (∀ k (h : k < ps.length), k < m + 1 → blt ps[k].1 key) := by
          intro k h hk
          by_cases hkm : k = m
          · subst hkm; exact hq
          · exact blt_trans (HR.out k m h hmn (by omega)) hq
        generalize ps[m].1 = k0 at c0 hneg
        generalize ps[m].2 = v0 at c1
        clear hq
        go_wp2_with (first | (go_at_call 158; go_must (refine (byKey_any _ _ _ _).mono ?_; rintro e w2 ⟨rfl, hb2⟩)))
        exact ⟨⟨m + 1, b, by omega, by omega, by simp, rfl, HQ.out, HHI.out, HBR.out.trans (hb2.mono HBR.out.size)⟩, by simp [intOf]; omega⟩
      · have hneg : ¬ cmpStr ps[m].1 key < 0 := by
          by_cases hq2 : blt key ps[m].1
          · rw [cmp_gt hq hq2]; decide
          · rw [cmp_eq hq hq2]; decide
        have HQ : Hid (∀ k (h : k < ps.length), m ≤ k → ¬ blt ps[k].1 key) := by
          intro k h hk hbl
          by_cases hkm : k = m
          · subst hkm; exact hq hbl
          · exact hq (blt_trans (HR.out m k hmn h (by omega)) hbl)
        generalize ps[m].1 = k0 at c0 hneg
        generalize ps[m].2 = v0 at c1
        clear hq
        go_wp2_with (first | (go_at_call 158; go_must (refine (byKey_any _ _ _ _).mono ?_; rintro e w2 ⟨rfl, hb2⟩)))
        exact ⟨⟨a, m, by omega, by omega, rfl, by simp, HLO.out, HQ.out, HBR.out.trans (hb2.mono HBR.out.size)⟩, by simp [intOf]; omega⟩
    · have hlt' : ¬ (a : Int) < (b : Int) := by omega
      have hab' : b = a := by omega
      subst hab'
      have HP : Hid (PosAt ps key b) := ⟨hbl, HLO.out, HHI.out⟩
      by_cases hbn : b < ps.length
      · have hbn' : (b : Int) < (ps.length : Int) := by omega
        obtain ⟨g, cap', he⟩ := owns_some hownr (by omega)
        simp only [Value.slice.injEq] at he
        obtain ⟨rfl, -, rfl⟩ := he
        obtain ⟨hc0, hc1⟩ := pairCells_at ps b ps[b] (List.getElem?_eq_getElem hbn)
        have c0 := owns_cell hownr hc0
        have c1 := owns_cell hownr hc1
        have HF : Hid (foundAt ps key b = (cmpStr ps[b].1 key == 0)) := by
          show _ = _
          have hn := HP.out.2.2 b hbn (Nat.le_refl _)
          by_cases hk : ps[b].1 = key
          · rw [hk, cmp_eq (blt_irrefl _) (blt_irrefl _)]; simp [foundAt, hbn, hk]
          · have h2 : blt key ps[b].1 := Classical.byContradiction fun h => hk (blt_tri hn h)
            rw [cmp_gt hn h2]; simp [foundAt, hbn, hk]
        clear hc0 hc1
        generalize ps[b].1 = k0 at c0 HF
        generalize ps[b].2 = v0 at c1
        go_wp2_with (first | (go_at_call 158; go_must (refine (byKey_any _ _ _ _).mono ?_; rintro e w2 ⟨rfl, hb2⟩)))
        go_ret2
        exact ⟨b, HP.out, by rw [HF.out]; rfl, HBR.out.trans (hb2.mono HBR.out.size)⟩
      · have hbn' : ¬ (b : Int) < (ps.length : Int) := by omega
        have HF : Hid (foundAt ps key b = false) := by show _ = _; simp [foundAt, hbn]
        go_wp2
        go_ret2
        exact ⟨b, HP.out, by rw [HF.out]; rfl, HBR.out⟩

theorem under_none : ∀ (ps : Pairs) (key : ByteArray), (∀ m (h : m < ps.length), ps[m].1 ≠ key) → under ps key = (false, ByteArray.empty)
  | [], _, _ => rfl
  | p :: r, key, h => by
    have h0 : p.1 ≠ key := h 0 (by simp)
    rw [under, if_neg h0]
    exact under_none r key (fun m hm => h (m + 1) (by simp; omega))
theorem under_at : ∀ (ps : Pairs) (key : ByteArray) (i : Nat) (h : i < ps.length), (∀ m (hm : m < ps.length), m < i → ps[m].1 ≠ key) → ps[i].1 = key → under ps key = (true, ps[i].2)
  | [], _, i, h, _, _ => by simp at h
  | p :: r, key, 0, h, _, he => by rw [under, if_pos (by simpa using he)]; rfl
  | p :: r, key, i + 1, h, hn, he => by
    have h0 : p.1 ≠ key := hn 0 (by simp) (by omega)
    rw [under, if_neg h0]
    simpa using under_at r key i (by simpa using h) (fun m hm hlt => hn (m + 1) (by simp; omega) (by omega)) (by simpa using he)
theorem blt_ne {a b : ByteArray} (h : blt a b) : a ≠ b := fun e => by subst e; exact blt_irrefl _ h
theorem found_under {ps : Pairs} {key : ByteArray} {i : Nat} (hp : PosAt ps key i) (hr : RisingAt ps) : (∃ h : i < ps.length, foundAt ps key i = true ∧ ps[i].1 = key ∧ under ps key = (true, ps[i].2)) ∨ (foundAt ps key i = false ∧ under ps key = (false, ByteArray.empty)) := by
  by_cases h : i < ps.length
  · by_cases hk : ps[i].1 = key
    · exact .inl ⟨h, by simp [foundAt, h, hk], hk, under_at ps key i h (fun m hm hlt => blt_ne (hp.2.1 m hm hlt)) hk⟩
    · refine .inr ⟨by simp [foundAt, h, hk], under_none ps key fun m hm e => ?_⟩
      by_cases hmi : m < i
      · exact blt_ne (hp.2.1 m hm hmi) e
      · have hlt : blt key ps[i].1 := Classical.byContradiction fun hc => hk (blt_tri (hp.2.2 i h (Nat.le_refl _)) hc)
        by_cases hme : m = i
        · subst hme; exact hk e
        · have := hr i m h hm (by omega)
          rw [e] at this
          exact blt_irrefl _ (blt_trans hlt this)
  · refine .inr ⟨by simp [foundAt, h], under_none ps key fun m hm e => ?_⟩
    exact blt_ne (hp.2.1 m hm (by omega)) e

theorem pos_unique {ps : Pairs} {key : ByteArray} {i j : Nat} (hi : PosAt ps key i) (hj : PosAt ps key j) : i = j := by
  rcases Nat.lt_trichotomy i j with h | h | h
  · exact absurd (hj.2.1 i (by have := hj.1; omega) h) (hi.2.2 i (by have := hj.1; omega) (Nat.le_refl _))
  · exact h
  · exact absurd (hi.2.1 j (by have := hi.1; omega) h) (hj.2.2 j (by have := hi.1; omega) (Nat.le_refl _))
theorem rising_tail {p : ByteArray × ByteArray} {r : Pairs} (h : RisingAt (p :: r)) : RisingAt r := fun i j hi hj hlt => by
  exact h (i + 1) (j + 1) (Nat.succ_lt_succ hi) (Nat.succ_lt_succ hj) (by omega)
theorem pos_exists : ∀ (ps : Pairs) (key : ByteArray), RisingAt ps → ∃ i, PosAt ps key i
  | [], _, _ => ⟨0, Nat.le_refl _, fun m h => by simp at h, fun m h => by simp at h⟩
  | p :: r, key, hr => by
    by_cases hp : blt p.1 key
    · obtain ⟨i, h1, h2, h3⟩ := pos_exists r key (rising_tail hr)
      refine ⟨i + 1, by simpa using h1, fun m h hm => ?_, fun m h hm => ?_⟩
      · match m with
        | 0 => exact hp
        | m + 1 => simpa using h2 m (by simpa using h) (by omega)
      · match m with
        | 0 => omega
        | m + 1 => simpa using h3 m (by simpa using h) (by omega)
    · refine ⟨0, by simp, fun m h hm => by omega, fun m h _ hb => ?_⟩
      match m with
      | 0 => exact hp hb
      | m + 1 => exact hp (blt_trans (hr 0 (m + 1) (by simp) h (by omega)) hb)

/-- A page in memory. -/
def PageAt (w : World) (pb : Nat) (turn : Int) (v : Value) (ps : Pairs) : Prop := w.heap[pb]? = some (.cells #[.int .i64 turn, v] 180 (0, 0)) ∧ w.ownsRow 0 43 2 v ps.length (pairCells ps)

set_option maxRecDepth 100000 in
set_option maxHeartbeats 1000000 in
theorem pageGet_any (pb : Nat) (turn : Int) (v : Value) (ps : Pairs) (key : ByteArray) (w : World) (hp : PageAt w pb turn v ps) (hlen : ps.length ≤ 100000) (hr : RisingAt ps) :
    Calls Tryz.prog 297 #[.pointer (some ⟨pb, 0, none⟩), .string key] w fun e w' => e = .returned (.agg #[.bool (under ps key).1, .string (under ps key).2]) ∧ Below w.heap.size w w' := by
  obtain ⟨hpb, hown⟩ := hp
  have hpw : pb < w.heap.size := lt_of_block' hpb
  have hpb1 := (Below.heap_alloc w (.cells #[.bool false, .string ByteArray.empty] 38) pb hpw).trans hpb
  have hown1 := hown.alloc (.cells #[.bool false, .string ByteArray.empty] 38)
  have hnew := heap_alloc_new w (.cells #[.bool false, .string ByteArray.empty] 38)
  have hB : Below w.heap.size w (w.alloc (.cells #[.bool false, .string ByteArray.empty] 38)) := (Below.refl _ _).alloc (Nat.le_refl _) _
  have cp : w.cell? ⟨pb, 1, none⟩ = some v := cell_at (j := 1) hpb rfl
  have hlt0 : ∀ g, v.ownBlock = some g → g < w.heap.size := fun g hg => (hown.lt g hg).2
  have HX : Hid (∀ w1, (w.alloc (.cells #[.bool false, .string ByteArray.empty] 38)) = w1 → w1.heap[pb]? = some (.cells #[.int .i64 turn, v] 180 (0, 0)) ∧ w1.ownsRow 0 43 2 v ps.length (pairCells ps) ∧ w1.heap[w.heap.size]? = some (.cells #[.bool false, .string ByteArray.empty] 38 (0, 0)) ∧ Below w.heap.size w w1 ∧ w1.heap.size = w.heap.size + 1) := by
    rintro w1 rfl; exact ⟨hpb1, hown1, hnew, hB, by simp⟩
  clear hpb1 hown1 hnew hB hpb hown
  obtain ⟨i, hpos⟩ := pos_exists ps key hr
  have HP : Hid (PosAt ps key i) := hpos
  have hfu := found_under hpos hr
  have hil := hpos.1
  clear hpos
  have hcase : (∃ (h : i < ps.length) (p : ByteArray × ByteArray), ps[i]? = some p ∧ foundAt ps key i = true ∧ Hid (under ps key = (true, p.2))) ∨ (foundAt ps key i = false ∧ Hid (under ps key = (false, ByteArray.empty))) := by
    rcases hfu with ⟨h, h1, _, h3⟩ | ⟨h1, h2⟩
    · exact .inl ⟨h, ps[i], List.getElem?_eq_getElem h, h1, h3⟩
    · exact .inr ⟨h1, h2⟩
  clear hfu
  rcases hcase with ⟨hlt, ⟨k0, v0⟩, hpi, hfo, HU⟩ | ⟨hfo, HU⟩
  · obtain ⟨hc0, hc1⟩ := pairCells_at ps i (k0, v0) hpi
    have hlt' : (i : Int) < (ps.length : Int) := by omega
    go_enter Tryz.func297, Tryz.ntmps297
    go_wp2_with (first | (go_at_call 157; go_must (
      obtain ⟨hpb1, hown1, hnew, hB, hz⟩ := HX.out _ rfl
      refine (search_any 0 v ps key _ hown1 hlen hr).mono ?_
      rintro e w2 ⟨i2, hpos, rfl, hb2⟩
      obtain rfl := pos_unique HP.out hpos
      have hpb2 := (hb2.block pb (by omega)).trans hpb1
      have hnew2 := (hb2.block w.heap.size (by omega)).trans hnew
      have cp2 : w2.cell? ⟨pb, 1, none⟩ = some v := cell_at (j := 1) hpb2 rfl
      have n0 : w2.cell? ⟨w.heap.size, 0, none⟩ = some (.bool false) := cell_at (j := 0) hnew2 rfl
      have n1 : w2.cell? ⟨w.heap.size, 1, none⟩ = some (.string ByteArray.empty) := cell_at (j := 1) hnew2 rfl
      have f0 := frozen_at 0 hnew2
      have f1 := frozen_at 1 hnew2
      have hown2 := owns_below hown1 hb2 (fun g hg => by have := hlt0 g hg; omega)
      have HB2 : Hid (Below w.heap.size w w2) := hB.trans (hb2.mono hB.size)
      have HN : Hid (w2.heap[w.heap.size]? = some (.cells #[.bool false, .string ByteArray.empty] 38 (0, 0))) := hnew2
      obtain ⟨g, cap, rfl⟩ := owns_some hown2 (by omega)
      have c0 := owns_cell hown2 hc0
      have c1 := owns_cell hown2 hc1
      have HF : Hid (((w2.setCell ⟨w.heap.size, 0, none⟩ (.bool true)).setCell ⟨w.heap.size, 1, none⟩ (.string v0)).heap[w.heap.size]? = some (.cells #[.bool true, .string v0] 38 (0, 0))) := by
        exact (setCell_at _ _ 1 _ _ _ (setCell_at _ _ 0 _ _ _ HN.out)).trans rfl
      clear hpb1 hown1 hnew hB hz hpb2 hnew2 hb2 hpos cp HX)))
    refine bodyPost_ret (v := .agg #[.bool true, .string v0]) ?_ rfl ⟨by rw [HU.out], ?_⟩
    · exact results_cell_row Tryz.results297 _ _ w.heap.size 38 #[.bool true, .string v0] (0, 0) _ rfl HF.out Tryz.underlying38 rfl (by kernel_rfl)
    · exact (HB2.out.setCell (p := ⟨w.heap.size, 0, none⟩) (Nat.le_refl _) _).setCell (p := ⟨w.heap.size, 1, none⟩) (Nat.le_refl _) _
  · go_enter Tryz.func297, Tryz.ntmps297
    go_wp2_with (first | (go_at_call 157; go_must (
      obtain ⟨hpb1, hown1, hnew, hB, hz⟩ := HX.out _ rfl
      refine (search_any 0 v ps key _ hown1 hlen hr).mono ?_
      rintro e w2 ⟨i2, hpos, rfl, hb2⟩
      obtain rfl := pos_unique HP.out hpos
      have hpb2 := (hb2.block pb (by omega)).trans hpb1
      have hnew2 := (hb2.block w.heap.size (by omega)).trans hnew
      have cp2 : w2.cell? ⟨pb, 1, none⟩ = some v := cell_at (j := 1) hpb2 rfl
      have n0 : w2.cell? ⟨w.heap.size, 0, none⟩ = some (.bool false) := cell_at (j := 0) hnew2 rfl
      have n1 : w2.cell? ⟨w.heap.size, 1, none⟩ = some (.string ByteArray.empty) := cell_at (j := 1) hnew2 rfl
      have f0 := frozen_at 0 hnew2
      have f1 := frozen_at 1 hnew2
      have hown2 := owns_below hown1 hb2 (fun g hg => by have := hlt0 g hg; omega)
      have HB2 : Hid (Below w.heap.size w w2) := hB.trans (hb2.mono hB.size)
      have HN : Hid (w2.heap[w.heap.size]? = some (.cells #[.bool false, .string ByteArray.empty] 38 (0, 0))) := hnew2
      have HF : Hid (((w2.setCell ⟨w.heap.size, 0, none⟩ (.bool false)).setCell ⟨w.heap.size, 1, none⟩ (.string ByteArray.empty)).heap[w.heap.size]? = some (.cells #[.bool false, .string ByteArray.empty] 38 (0, 0))) := by
        exact (setCell_at _ _ 1 _ _ _ (setCell_at _ _ 0 _ _ _ HN.out)).trans rfl
      clear hpb1 hown1 hnew hB hz hpb2 hnew2 hb2 hpos cp HX)))
    refine bodyPost_ret (v := .agg #[.bool false, .string ByteArray.empty]) ?_ rfl ⟨by rw [HU.out], ?_⟩
    · exact results_cell_row Tryz.results297 _ _ w.heap.size 38 #[.bool false, .string ByteArray.empty] (0, 0) _ rfl HF.out Tryz.underlying38 rfl (by kernel_rfl)
    · exact (HB2.out.setCell (p := ⟨w.heap.size, 0, none⟩) (Nat.le_refl _) _).setCell (p := ⟨w.heap.size, 1, none⟩) (Nat.le_refl _) _
end Go.Proofs.YtihbngfbcnojcaaGreat

namespace Go.Proofs.YtihbngfbcnojcaaGreat
open Go.RowKit

theorem pairCells_one (ps : Pairs) : ∀ u ∈ pairCells ps, u.oneCell' = true := by
  intro u hu
  simp only [pairCells, List.mem_flatMap] at hu
  obtain ⟨p, _, hp⟩ := hu
  simp at hp
  rcases hp with rfl | rfl <;> rfl
/-- The cells of an owned row are there, and may be written. -/
theorem owns_there {w : World} {base : Nat} {e : TypeId} {size n g cap : Nat} {xs : List Value} (h : w.ownsRow base e size (.slice (some ⟨g, 0, none⟩) n cap) n xs) {j : Nat} (hj : j < cap * size) : (w.cell? ⟨g, j, none⟩).isSome = true ∧ w.frozen? ⟨g, j, none⟩ = false := by
  rcases h.2 with ⟨h1, _⟩ | ⟨g', cap', cur, h1, h2, h3, h4, h5, h6, h7⟩
  · cases h1
  · simp at h1
    obtain ⟨rfl, rfl⟩ := h1
    exact ⟨by rw [cell_at h3 (Array.getElem?_eq_getElem (show j < cur.size by omega))]; rfl, frozen_at _ h3⟩

/-- What lies in a row's array: the cells that count, and spare ones. -/
theorem owns_cur {w : World} {base : Nat} {e : TypeId} {size n g cap : Nat} {xs : List Value} (h : w.ownsRow base e size (.slice (some ⟨g, 0, none⟩) n cap) n xs) :
    ∃ rest : List Value, w.heap[g]? = some (.cells (xs ++ rest).toArray e (0, 0)) ∧ xs.length = n * size ∧ xs.length + rest.length = cap * size ∧ n ≤ cap ∧ cap ≤ maxLen := by
  rcases h.2 with ⟨h1, _⟩ | ⟨g', cap', cur, h1, h2, h3, h4, h5, h6, h7⟩
  · cases h1
  · simp at h1
    obtain ⟨rfl, rfl⟩ := h1
    refine ⟨cur.toList.drop (n * size), ?_, h.1, ?_, h4, h5⟩
    · rw [← h7, List.take_append_drop, Array.toArray_toList]; exact h3
    · have hle : n * size ≤ cur.toList.length := by
        rw [← h7] at h
        have := h.1
        simp at this ⊢
        omega
      rw [h.1, List.length_drop]
      simp at hle ⊢
      omega
theorem owns_of {w : World} {base : Nat} {e : TypeId} {size n g cap : Nat} {xs rest : List Value} (hb : base ≤ g) (hg : w.heap[g]? = some (.cells (xs ++ rest).toArray e (0, 0))) (h1 : xs.length = n * size) (h2 : xs.length + rest.length = cap * size) (h3 : n ≤ cap) (h4 : cap ≤ maxLen) :
    w.ownsRow base e size (.slice (some ⟨g, 0, none⟩) n cap) n xs :=
  ⟨h1, .inr ⟨g, cap, _, rfl, hb, hg, h3, h4, by simpa using h2, by rw [← h1]; simp⟩⟩
/-- Cells over a row, as lists. -/
theorem setCells_list {w : World} {g : Nat} {t : TypeId} (X Y Z S : List Value) (h : w.heap[g]? = some (.cells (X ++ Y ++ Z).toArray t (0, 0))) (hl : S.length = Y.length) : (w.setCells g X.length S).heap[g]? = some (.cells (X ++ S ++ Z).toArray t (0, 0)) := by
  induction S generalizing w X Y with
  | nil =>
    obtain rfl : Y = [] := List.eq_nil_of_length_eq_zero (by simpa using hl.symm)
    exact h
  | cons v r ih =>
    match Y with
    | [] => simp at hl
    | y :: Y =>
      have h1 := setCell_at w g X.length v _ t h
      have h2 : ((X ++ y :: Y ++ Z).toArray.setIfInBounds X.length v) = ((X ++ [v]) ++ Y ++ Z).toArray := by
        apply Array.toList_inj.1
        simp
      rw [h2] at h1
      have := ih (X ++ [v]) Y h1 (by simpa using hl)
      simp only [World.setCells]
      simpa using this
theorem setCells_frame (S : List Value) (w : World) (g o : Nat) : (∀ k, k ≠ g → (w.setCells g o S).heap[k]? = w.heap[k]?) ∧ Below 0 w (w.setCells g o S) := by
  induction S generalizing w o with
  | nil => exact ⟨fun _ _ => rfl, Below.refl _ _⟩
  | cons v r ih =>
    obtain ⟨h1, h2⟩ := ih (w.setCell ⟨g, o, none⟩ v) (o + 1)
    exact ⟨fun k hk => (h1 k hk).trans (Below.heap_setCell _ _ _ _ hk), ((Below.refl _ _).setCell (p := ⟨g, o, none⟩) (by simp) _).trans h2⟩

/-- 'clear' of one pair. -/
theorem run_clear_pair (w : World) (ty : TypeId) (g o c : Nat) (t0 t1 : Value) (h0 : w.cell? ⟨g, o, none⟩ = some t0) (h1 : w.cell? ⟨g, o + 1, none⟩ = some t1) (f0 : w.frozen? ⟨g, o, none⟩ = false) (f1 : w.frozen? ⟨g, o + 1, none⟩ = false) :
    Sem.run Tryz.prog (Builtin.clear_ #[34] ty #[.slice (some ⟨g, o, none⟩) 1 c]) w = .ok (.tuple #[]) ((w.setCell ⟨g, o, none⟩ (.string ByteArray.empty)).setCell ⟨g, o + 1, none⟩ (.string ByteArray.empty)) := by
  obtain ⟨i0, hi0, hz0, hz1, hz2⟩ := info_parts infoPair
  have hv : (zeroValue 43).run Tryz.prog w = .ok (.agg #[.string ByteArray.empty, .string ByteArray.empty]) w := by
    simp [zeroValue, typeInfo, hi0, hz0]
  have hzc : (Builtin.zeroCells (Value.agg #[.string ByteArray.empty, .string ByteArray.empty]).cells 1).toList = [.string ByteArray.empty, .string ByteArray.empty] := by
    simp [Builtin.zeroCells, Value.cells]
    rfl
  have hst := run_storeCells_cells (P := Tryz.prog) g o [.string ByteArray.empty, .string ByteArray.empty] 0 w
    (by intro j hj; match j, hj with | 0, _ => (simp [h0]) | 1, _ => (simp [h1]))
    (by intro j hj; match j, hj with | 0, _ => (simpa using f0) | 1, _ => (simpa using f1))
    (by intro v hv; simp at hv; subst hv; rfl)
  simp only [Nat.add_zero, World.setCells] at hst
  simp [Builtin.clear_, run_underlying Tryz.underlying34, hv, hzc, hst]

set_option maxRecDepth 100000 in
set_option maxHeartbeats 1000000 in
theorem delete_any (g cap a r : Nat) (A B : Pairs) (p : ByteArray × ByteArray) (w : World) (hA : A.length = a) (hB : B.length = r) (hown : w.ownsRow 0 43 2 (.slice (some ⟨g, 0, none⟩) (a + 1 + r) cap) (a + 1 + r) (pairCells (A ++ p :: B))) (hlen : a + 1 + r ≤ 100000) :
    Calls Tryz.prog 159 #[.slice (some ⟨g, 0, none⟩) (a + 1 + r) cap, .int .i64 a, .int .i64 ((a : Int) + 1)] w fun e w' => e = .returned (.slice (some ⟨g, 0, none⟩) (a + r) cap) ∧
      w'.ownsRow 0 43 2 (.slice (some ⟨g, 0, none⟩) (a + r) cap) (a + r) (pairCells (A ++ B)) ∧ (∀ k, k < w.heap.size → k ≠ g → w'.heap[k]? = w.heap[k]?) ∧ Below 0 w w' := by
  obtain ⟨i0, hi0, hz0, hz1, hz2⟩ := info_parts infoPair
  obtain ⟨rest, hg, hl1, hl2, hcap, hmax⟩ := owns_cur hown
  have hpc : pairCells (A ++ p :: B) = pairCells A ++ [Value.string p.1, Value.string p.2] ++ pairCells B := by simp [pairCells]
  have HG : Hid (w.heap[g]? = some (.cells (pairCells A ++ ([Value.string p.1, Value.string p.2] ++ pairCells B) ++ rest).toArray 43 (0, 0))) := by
    show _ = _
    rw [hg, hpc]; simp
  have HL : Hid ((pairCells A).length = a * 2 ∧ (pairCells B).length = r * 2 ∧ rest.length + (a + 1 + r) * 2 = cap * 2 ∧ cap ≤ maxLen) := ⟨by rw [pairCells_length, hA], by rw [pairCells_length, hB], by omega, hmax⟩
  have HOWN : Hid (w.ownsRow 0 43 2 (.slice (some ⟨g, 0, none⟩) (a + 1 + r) cap) (a + 1 + r) (pairCells (A ++ p :: B))) := hown
  obtain ⟨c, rfl⟩ : ∃ c, cap = a + 1 + c := ⟨cap - (a + 1), by omega⟩
  have hrc : r ≤ c := by omega
  clear hown hg hpc hl1 hl2 hcap hmax hA hB
  have e1 : ((a : Int) == (a : Int) + 1) = false := by simp; omega
  have e2 : (a : Int) ≤ (a : Int) + 1 + (r : Int) := by omega
  have e3 : (a : Int) + 1 ≤ (a : Int) + 1 + (r : Int) := by omega
  have e4 : (0 : Int) ≤ (a : Int) + 1 := by omega
  have e5 : (a : Int) ≤ (a : Int) + 1 := by omega
  have e6 : (a : Int) + 1 + (r : Int) ≤ (a : Int) + 1 + (c : Int) := by omega
  have e7 : (a : Int) ≤ (a : Int) + 1 + (c : Int) := by omega
  have e8 : a ≤ a + 1 + c := by omega
  have e9 : (a : Int) + 1 + (r : Int) ≤ 100000 := by omega
  go_enter Tryz.func159, Tryz.ntmps159
  go_wp2_with (at_builtin; fail)
  have HC1 : Hid (∀ u ∈ pairCells B, u.oneCell' = true) := pairCells_one B
  have HSP : Hid (∀ j, j < (pairCells B).length → (w.cell? ⟨g, 0 + a * 2 + j, none⟩).isSome = true ∧ w.frozen? ⟨g, 0 + a * 2 + j, none⟩ = false) := by
    intro j hj
    rw [HL.out.2.1] at hj
    exact owns_there HOWN.out (by omega)
  have HCC : Hid (∀ j u, (pairCells B)[j]? = some u → w.cell? ((⟨g, (a + 1) * 2, none⟩ : Addr).add j) = some u) := fun j u hu => by
    rw [Addr.add_mid]
    refine owns_cell HOWN.out ?_
    have hp : pairCells (A ++ p :: B) = (pairCells A ++ [Value.string p.1, Value.string p.2]) ++ pairCells B := by simp [pairCells]
    rw [hp, List.getElem?_append_right (by have := HL.out.1; simp; omega)]
    have hx : (a + 1) * 2 + j - (pairCells A ++ [Value.string p.1, Value.string p.2]).length = j := by have := HL.out.1; simp; omega
    rw [hx]; exact hu
  have HW : Hid (∀ t0 t1, ([Value.string p.1, Value.string p.2] ++ pairCells B).drop (r * 2) = [t0, t1] → (w.drew.setCells g (a * 2) (pairCells B)).heap[g]? = some (.cells ((pairCells A ++ pairCells B) ++ [t0, t1] ++ rest).toArray 43 (0, 0))) := by
    intro t0 t1 ht
    have := setCells_list (w := w.drew) (g := g) (t := 43) (pairCells A) (([Value.string p.1, Value.string p.2] ++ pairCells B).take (r * 2)) ([t0, t1] ++ rest) (pairCells B) ?_ (by rw [List.length_take]; have := HL.out.2.1; simp; omega)
    · rw [HL.out.1] at this
      rw [this]
      simp
    · refine HG.out.trans ?_
      rw [← ht]
      congr 3
      simp only [List.append_assoc]
      rw [← List.append_assoc (List.take _ _), List.take_append_drop]
      simp
  obtain ⟨t0, t1, ht⟩ : ∃ t0 t1, ([Value.string p.1, Value.string p.2] ++ pairCells B).drop (r * 2) = [t0, t1] := by
    have hl : (([Value.string p.1, Value.string p.2] ++ pairCells B).drop (r * 2)).length = 2 := by rw [List.length_drop]; have := HL.out.2.1; simp; omega
    match h : ([Value.string p.1, Value.string p.2] ++ pairCells B).drop (r * 2), hl with
    | [t0, t1], _ => exact ⟨t0, t1, rfl⟩
  have HW1 : Hid ((w.drew.setCells g (a * 2) (pairCells B)).heap[g]? = some (.cells ((pairCells A ++ pairCells B) ++ [t0, t1] ++ rest).toArray 43 (0, 0))) := HW.out t0 t1 ht
  have HFR := @id (Hid _) (setCells_frame (pairCells B) w.drew g (a * 2))
  clear HW ht
  have HFIN : ∀ w1 : World, w1.heap[g]? = some (.cells ((pairCells A ++ pairCells B) ++ [t0, t1] ++ rest).toArray 43 (0, 0)) → (∀ k, k ≠ g → w1.heap[k]? = w.heap[k]?) → Below 0 w w1 →
      ((w1.setCell ⟨g, (a + r) * 2, none⟩ (.string ByteArray.empty)).setCell ⟨g, (a + r) * 2 + 1, none⟩ (.string ByteArray.empty)).ownsRow 0 43 2 (.slice (some ⟨g, 0, none⟩) (a + r) (a + 1 + c)) (a + r) (pairCells (A ++ B)) ∧
      (∀ k, k < w.heap.size → k ≠ g → ((w1.setCell ⟨g, (a + r) * 2, none⟩ (.string ByteArray.empty)).setCell ⟨g, (a + r) * 2 + 1, none⟩ (.string ByteArray.empty)).heap[k]? = w.heap[k]?) ∧ Below 0 w ((w1.setCell ⟨g, (a + r) * 2, none⟩ (.string ByteArray.empty)).setCell ⟨g, (a + r) * 2 + 1, none⟩ (.string ByteArray.empty)) := by
    intro w1 h1 h2 h3
    obtain ⟨f1, f2⟩ := setCells_frame [Value.string ByteArray.empty, .string ByteArray.empty] w1 g ((a + r) * 2)
    have hL : (pairCells A ++ pairCells B).length = (a + r) * 2 := by rw [List.length_append, HL.out.1, HL.out.2.1]; omega
    have h4 := setCells_list (w := w1) (g := g) (t := 43) (pairCells A ++ pairCells B) [t0, t1] rest [Value.string ByteArray.empty, .string ByteArray.empty] h1 rfl
    rw [hL] at h4
    refine ⟨?_, fun k hk hne => (f1 k hne).trans (h2 k hne), h3.trans f2⟩
    refine owns_of (rest := [Value.string ByteArray.empty, .string ByteArray.empty] ++ rest) (Nat.zero_le _) ?_ ?_ ?_ (by omega) HL.out.2.2.2
    · rw [pairCells_append, ← List.append_assoc]; exact h4
    · rw [pairCells_append]; exact hL
    · rw [pairCells_append, hL]; have := HL.out.2.2.1; simp; omega
  have HF := @id (Hid _) HFIN
  clear HFIN
  have q1 : a + 1 + r - (a + r) = 1 := by omega
  have q2 : a + r ≤ a + 1 + r := by omega
  have q3 : (a : Int) + (r : Int) ≤ (a : Int) + 1 + (r : Int) := by omega
  have q4 : a + 1 + r ≤ a + 1 + c := by omega
  have q5 : (0 : Int) ≤ (a : Int) + (r : Int) := by omega
  by_cases h8 : c = 0
  · have hr0 : r = 0 := by omega
    subst h8
    subst hr0
    have HB : Hid (pairCells B = []) := List.eq_nil_of_length_eq_zero (by have := HL.out.2.1; omega)
    go_region_law (first
      | (refine step_append_room ?hgd (.tmp 22) (.tmp 25) 34 ?hop 43 i0 2 Tryz.underlying34 hi0 hz1 g 0 a (a + 1) ?hs ⟨g, 0, none⟩ 0 0 (pairCells B) ?hx ?hn ?hc HC1.out ?hroom HSP.out ?_
         case hgd => rfl
         case hop => rfl
         case hs => go_simp
         case hx => go_simp
         case hn => rw [HB.out]; rfl
         case hroom => omega
         case hc => intro j u hu; rw [HB.out] at hu; simp at hu))
    have hg1 := HW1.out
    obtain ⟨hf1, hf2⟩ := HFR.out
    have hf3 : Below 0 w (w.drew.setCells g (a * 2) (pairCells B)) := (Below.refl _ _).drew.trans hf2
    have hf4 : ∀ k, k ≠ g → (w.drew.setCells g (a * 2) (pairCells B)).heap[k]? = w.heap[k]? := hf1
    revert hg1 hf3 hf4
    generalize w.drew.setCells g (a * 2) (pairCells B) = w1
    intro hg1 hf3 hf4
    have o123 := HF.out w1 hg1 hf4 hf3
    simp only [Nat.add_zero] at o123
    obtain ⟨o1, o2, o3⟩ := o123
    have hL : (pairCells A ++ pairCells B).length = a * 2 := by rw [List.length_append, HL.out.1, HL.out.2.1]; omega
    have c0 : w1.cell? ⟨g, a * 2, none⟩ = some t0 := cell_at hg1 (by simp only [List.getElem?_toArray]; rw [List.append_assoc, List.getElem?_append_right (by omega), hL]; simp)
    have c1 : w1.cell? ⟨g, a * 2 + 1, none⟩ = some t1 := cell_at hg1 (by simp only [List.getElem?_toArray]; rw [List.append_assoc, List.getElem?_append_right (by omega), hL]; simp)
    have fz0 := frozen_at (a * 2) hg1
    have fz1 := frozen_at (a * 2 + 1) hg1
    have HO : Hid _ := @id (Hid _) (And.intro o1 (And.intro o2 o3))
    have hcl := fun ty cc => run_clear_pair w1 ty g (a * 2) cc t0 t1 c0 c1 fz0 fz1
    clear o1 o2 o3 hg1 hf3 hf4 hf1 hf2 HW1 HFR c0 c1 fz0 fz1
    go_wp2
    go_ret
    exact ⟨rfl, HO.out⟩
  · have h9 : ¬ (a + 1 + c = a + 1) := by omega
    go_region_law (first
      | (refine step_append_room ?hgd (.tmp 22) (.tmp 25) 34 ?hop 43 i0 2 Tryz.underlying34 hi0 hz1 g 0 a (a + 1 + c) ?hs ⟨g, (a + 1) * 2, none⟩ r c (pairCells B) ?hx HL.out.2.1 HCC.out HC1.out ?hroom HSP.out ?_
         case hgd => rfl
         case hop => rfl
         case hs => go_simp
         case hx => go_simp
         case hroom => omega))
    have hg1 := HW1.out
    obtain ⟨hf1, hf2⟩ := HFR.out
    have hf3 : Below 0 w (w.drew.setCells g (a * 2) (pairCells B)) := (Below.refl _ _).drew.trans hf2
    have hf4 : ∀ k, k ≠ g → (w.drew.setCells g (a * 2) (pairCells B)).heap[k]? = w.heap[k]? := hf1
    revert hg1 hf3 hf4
    generalize w.drew.setCells g (a * 2) (pairCells B) = w1
    intro hg1 hf3 hf4
    obtain ⟨o1, o2, o3⟩ := HF.out w1 hg1 hf4 hf3
    have hL : (pairCells A ++ pairCells B).length = (a + r) * 2 := by rw [List.length_append, HL.out.1, HL.out.2.1]; omega
    have c0 : w1.cell? ⟨g, (a + r) * 2, none⟩ = some t0 := cell_at hg1 (by simp only [List.getElem?_toArray]; rw [List.append_assoc, List.getElem?_append_right (by omega), hL]; simp)
    have c1 : w1.cell? ⟨g, (a + r) * 2 + 1, none⟩ = some t1 := cell_at hg1 (by simp only [List.getElem?_toArray]; rw [List.append_assoc, List.getElem?_append_right (by omega), hL]; simp)
    have fz0 := frozen_at ((a + r) * 2) hg1
    have fz1 := frozen_at ((a + r) * 2 + 1) hg1
    have HO : Hid _ := @id (Hid _) (And.intro o1 (And.intro o2 o3))
    have hcl := fun ty cc => run_clear_pair w1 ty g ((a + r) * 2) cc t0 t1 c0 c1 fz0 fz1
    clear o1 o2 o3 hg1 hf3 hf4 hf1 hf2 HW1 HFR c0 c1 fz0 fz1
    go_wp2
    go_ret
    exact ⟨rfl, HO.out⟩
end Go.Proofs.YtihbngfbcnojcaaGreat

namespace Go.Proofs.YtihbngfbcnojcaaGreat
open Go.RowKit

/-- 'copy' of elements of several cells. -/
theorem run_copy_wide {P : Program} (w : World) (dT sT ty elem : TypeId) (size b o dLen dCap : Nat) (a : Addr) (sLen sCap n : Nat) (cs : List Value)
    (hu : P.underlying dT = some (.slice elem)) (hs : (P.info? elem).map (·.size) = some size) (hm : Nat.min sLen dLen = n) (hn : cs.length = n * size)
    (hsrc : ∀ j v, cs[j]? = some v → w.cell? (a.add j) = some v) (hc : ∀ j, j < cs.length → (w.cell? ⟨b, o + j, none⟩).isSome = true) (hf : ∀ j, j < cs.length → w.frozen? ⟨b, o + j, none⟩ = false) (h1 : ∀ v ∈ cs, v.oneCell' = true) :
    (Builtin.copy_ #[dT, sT] ty #[.slice (some ⟨b, o, none⟩) dLen dCap, .slice (some a) sLen sCap]).run P w = .ok (goInt n) (w.setCells b o cs) := by
  have hl := run_loadCells_list (P := P) w a cs hsrc
  have hst := run_storeCells_cells (P := P) b o cs 0 w (by simpa using hc) (by simpa using hf) h1
  cases hq : P.info? elem with
  | none => simp [hq] at hs
  | some i =>
    have hi : i.size = size := by simpa [hq] using hs
    simp [Builtin.copy_, run_underlying hu, Builtin.lenOf, Builtin.firstCells, sizeOf, typeInfo, hq, hi, hm, ← hn, hl, hst]

theorem step_copy_run {P : Program} {ops : Array Oper} {o : Oper} {a : Act} {w : World} {K : Act → World → Prop} {Q : Exit → Act → World → Prop} {E : Prop}
    (hg : o.guard = none) (d x : Operand) (dT sT : TypeId) (hop : o.op = Op.call { callee := Callee.builtin Builtin.copy, args := #[d, x], argTypes := #[dT, sT] })
    (v u : Value) (hd : a.eval d = v) (hx : a.eval x = u) {v' : Value} {w' : World} (hr : (Builtin.copy_ #[dT, sT] o.type #[v, u]).run P w = .ok v' w') (hK : K (a.put o.dst v') w') :
    if Region.wanted o (yielded ops a.tmps) = true then Oper.wp P o a w K Q else E := by
  have hw : Region.wanted o (yielded ops a.tmps) = true := by simp [Region.wanted, hg]
  rw [if_pos hw]
  unfold Oper.wp
  simp [execOp, hop, resolve, invoke, builtin, hd, hx, hr, Result.andThen]
  exact hK
theorem wpList_copy_run {P : Program} (w : World) {ops : Array Oper} {rest : List Oper} {o : Oper} {a : Act} {Q : Exit → Act → World → Prop} (hgd : o.guard = none) (d s : Operand) (t t' : TypeId)
    (ho : o.op = .call { callee := .builtin .copy, args := #[d, s], argTypes := #[t, t'] }) (v u : Value) (hd : a.eval d = v) (hs : a.eval s = u) {v' : Value} {w' : World}
    (hr : (Builtin.copy_ #[t, t'] o.type #[v, u]).run P w = .ok v' w') (h : wpList P ops Q rest (a.put o.dst v') w') : wpList P ops Q (o :: rest) a w :=
  wpList_plain hgd fun _ hK => by
    unfold Oper.wp execOp
    simp only [ho, resolve, invoke, builtin, Sem.run_bind, Sem.run_pure, Result.andThen_ok, List.map_toArray, List.map_cons, List.map_nil, hd, hs, hr]
    exact hK _ _ h

/-- 'append(l, v...)' with one pair, to a row of one's own: what it turns. -/
theorem wpList_append_pair' {ops : Array Oper} {rest : List Oper} {o : Oper} {ac : Act} {w : World} {Q : Exit → Act → World → Prop} (hgd : o.guard = none) (s x : Operand)
    (ho : o.op = .call { callee := .builtin .append, args := #[s, x], argTypes := #[34, 34] }) (base : Nat) (v : Value) (l : Pairs) (n : Nat) (hln : l.length = n) (hs : ac.eval s = v) (hown : w.ownsRow base 43 2 v n (pairCells l))
    (g : Nat) (a b : ByteArray) (hx : ac.eval x = .slice (some ⟨g, 0, none⟩) 1 1) (hg : w.heap[g]? = some (.cells #[.string a, .string b] 43 (0, 0))) (hlen : n ≤ 1000000) (hbase : base ≤ w.heap.size)
    (h : ∀ v' w', w'.ownsRow base 43 2 v' (n + 1) (pairCells (l ++ [(a, b)])) → w.grownBy w' v.ownBlock → (v'.ownBlock = v.ownBlock ∨ v'.ownBlock = some w.heap.size) → wpList Tryz.prog ops Q rest (ac.put o.dst v') w') : wpList Tryz.prog ops Q (o :: rest) ac w := by
  subst hln
  obtain ⟨i0, hi, hz0, hz1, hz2⟩ := info_parts infoPair
  refine wpList_append_own_at w hgd s x 34 ho base 43 i0 _ 2 32 Tryz.underlying34 hi hz0 hz1 hz2 rfl (by decide) v l.length (pairCells l) hs hown ⟨g, 0, none⟩ 1 1 [.string a, .string b] hx rfl (fun j u hu => by rw [add_zero0]; exact cell_at hg (by simpa using hu)) (fun x hx => by simp at hx; rcases hx with rfl | rfl <;> rfl) (by unfold maxLen; omega) (by omega) hbase ?_
  intro v' w' h1 h2 _ h4
  exact h v' w' (by have := pairs_snoc h1; simpa using this) h2 h4

/-- What an insert leaves. -/
def Inserted (w w' : World) (v v' : Value) (n : Nat) (l : Pairs) : Prop := w'.ownsRow 0 43 2 v' n (pairCells l) ∧ (∀ k, k < w.heap.size → v.ownBlock ≠ some k → w'.heap[k]? = w.heap[k]?) ∧ (v'.ownBlock = v.ownBlock ∨ ∃ k, w.heap.size ≤ k ∧ v'.ownBlock = some k) ∧ Below 0 w w'

set_option maxRecDepth 100000 in
set_option maxHeartbeats 1000000 in
/-- At the end. -/
theorem insert_end (v : Value) (a : Nat) (A : Pairs) (p : ByteArray × ByteArray) (gv : Nat) (w : World) (hA : A.length = a) (hown : w.ownsRow 0 43 2 v a (pairCells A)) (hgv : w.heap[gv]? = some (.cells #[.string p.1, .string p.2] 43 (0, 0))) (hlen : a ≤ 100000) :
    Calls Tryz.prog 160 #[v, .int .i64 a, .slice (some ⟨gv, 0, none⟩) 1 1] w fun e w' => ∃ v', e = .returned v' ∧ Inserted w w' v v' (a + 1) (A ++ [p]) := by
  obtain ⟨ad, cap, rfl, _⟩ := owns_slice' hown
  have hcap : a ≤ cap := by
    rcases hown.2 with ⟨h, h0⟩ | ⟨g', cap', cur, h1, h2, h3, h4, h5, h6, h7⟩
    · omega
    · simp at h1; omega
  have e1 : (a : Int) ≤ (a : Int) := by omega
  have e2 : (a : Int) ≤ 100000 := by omega
  have HO : Hid (w.ownsRow 0 43 2 (.slice ad a cap) a (pairCells A)) := hown
  have HG : Hid (w.heap[gv]? = some (.cells #[.string p.1, .string p.2] 43 (0, 0))) := hgv
  clear hown hgv
  by_cases hca : cap = a
  all_goals
    (try subst hca)
    go_enter Tryz.func160, Tryz.ntmps160
    go_wp2_with (first | (at_builtin; go_must (
        refine wpList_append_pair' rfl _ _ rfl 0 _ A _ hA rfl HO.out gv p.1 p.2 rfl HG.out (by omega) (by omega) ?_
        intro v4 w4 hown4 hg4 hat4
        have hg5 : w.grownBy w4 (Value.slice ad 0 0).ownBlock := by cases ad <;> exact hg4
        have hat5 : v4.ownBlock = (Value.slice ad 0 0).ownBlock ∨ v4.ownBlock = some w.heap.size := by cases ad <;> exact hat4
        clear hg4 hat4)))
    all_goals
      go_ret
      refine ⟨_, rfl, hown4, fun k hk hne => hg5.block k hk (fun e => hne (by cases ad <;> exact e.symm)), ?_, ⟨hg5.os, hg5.tape, hg5.output, hg5.size, fun k hk => by omega⟩⟩
      rcases hat5 with h | h
      · refine .inl ?_
        cases ad <;> exact h
      · exact .inr ⟨_, Nat.le_refl _, h⟩

theorem shape_at {w : World} {b : Nat} {cs : Array Value} {t : TypeId} {fz : Nat × Nat} (h : w.heap[b]? = some (.cells cs t fz)) : w.shape? b = some (t, cs.size) := by
  simp [World.shape?, h]

set_option maxRecDepth 100000 in
set_option maxHeartbeats 2000000 in
/-- In the midst, with room. -/
theorem insert_room (g cap a r : Nat) (A B : Pairs) (p : ByteArray × ByteArray) (gv : Nat) (w : World) (hA : A.length = a) (hB : B.length = r + 1) (hown : w.ownsRow 0 43 2 (.slice (some ⟨g, 0, none⟩) (a + 1 + r) cap) (a + 1 + r) (pairCells (A ++ B))) (hgv : w.heap[gv]? = some (.cells #[.string p.1, .string p.2] 43 (0, 0)))
    (hne : gv ≠ g) (hlen : a + 1 + r ≤ 100000) (hroom : a + 1 + r < cap) :
    Calls Tryz.prog 160 #[.slice (some ⟨g, 0, none⟩) (a + 1 + r) cap, .int .i64 a, .slice (some ⟨gv, 0, none⟩) 1 1] w fun e w' => ∃ v', e = .returned v' ∧ Inserted w w' (.slice (some ⟨g, 0, none⟩) (a + 1 + r) cap) v' (a + 1 + r + 1) (A ++ p :: B) := by
  obtain ⟨i0, hi0, hz0, hz1, hz2⟩ := info_parts infoPair
  obtain ⟨rest, hg, hl1, hl2, hcap, hmax⟩ := owns_cur hown
  obtain ⟨c, rfl⟩ : ∃ c, cap = a + 1 + r + 1 + c := ⟨cap - (a + 1 + r + 1), by omega⟩
  have HG : Hid (w.heap[g]? = some (.cells (pairCells (A ++ B) ++ rest).toArray 43 (0, 0)) ∧ w.heap[gv]? = some (.cells #[.string p.1, .string p.2] 43 (0, 0))) := ⟨hg, hgv⟩
  have HL : Hid ((pairCells A).length = a * 2 ∧ (pairCells B).length = (r + 1) * 2 ∧ rest.length = (c + 1) * 2 ∧ a + 1 + r + 1 + c ≤ maxLen) := ⟨by rw [pairCells_length, hA], by rw [pairCells_length, hB], by omega, hmax⟩
  clear hown hg hl1 hl2 hcap hmax hA hB hroom hgv
  have e1 : (a : Int) ≤ (a : Int) + 1 + (r : Int) := by omega
  have e2 : ((a : Int) == (a : Int) + 1 + (r : Int)) = false := by simp; omega
  have e3 : ¬ ((a : Int) + 1 + (r : Int) + 1 + (c : Int) < (a : Int) + 1 + (r : Int) + 1) := by omega
  have e4 : (a : Int) + 1 + (r : Int) + 1 ≤ (a : Int) + 1 + (r : Int) + 1 + (c : Int) := by omega
  have e5 : (a : Int) + 1 ≤ (a : Int) + 1 + (r : Int) + 1 := by omega
  have e6 : (0 : Int) ≤ (a : Int) + 1 := by omega
  have e7 : (0 : Int) ≤ (a : Int) + 1 + (r : Int) + 1 := by omega
  have e8 : (a : Int) ≤ (a : Int) + 1 + (r : Int) + 1 := by omega
  have e9 : (a : Int) + 1 + (r : Int) ≤ 100000 := by omega
  have hszP : ∀ w, (Go.sizeOf 43).run Tryz.prog w = .ok 2 w := fun w => by simp [Go.sizeOf, typeInfo, hi0, hz1]
  have hov : ∀ lb cb, (callFunc 207 #[.slice (some ⟨gv, 0, none⟩) 1 1, .slice (some ⟨g, (a + 1) * 2, none⟩) lb cb]).run Tryz.prog w = .ok (.value (.bool false)) w := fun lb cb => by
    rw [run_callFunc_extern Tryz.func207 (by kernel_rfl) (by kernel_rfl) (by kernel_rfl) (e := Extern.SlicesOverlaps.overlaps #[34, 34] #[4]) (by kernel_rfl),
      Lib.run_overlaps_apart w 34 4 43 Tryz.underlying34 2 hszP ⟨gv, 0, none⟩ ⟨g, (a + 1) * 2, none⟩ 1 1 lb cb hne 43 43 _ _ (shape_at HG.out.2) (shape_at HG.out.1) (by have h1 := HL.out.2.2.1; rw [List.size_toArray, List.length_append]; omega) (frozen_at 0 HG.out.2) (frozen_at _ HG.out.2)]
    rfl
  go_enter Tryz.func160, Tryz.ntmps160
  go_wp2_with (simp only [hov])
  have hszM : (Tryz.prog.info? 43).map (·.size) = some 2 := by rw [hi0]; simp [hz1]
  obtain ⟨b0, B', rfl⟩ : ∃ b0 B', B = b0 :: B' := by
    match B, HL with
    | [], HL => have := HL.out.2.1; simp [pairCells] at this
    | b0 :: B', _ => exact ⟨b0, B', rfl⟩
  obtain ⟨x0, x1, rest', rfl⟩ : ∃ x0 x1 rest', rest = x0 :: x1 :: rest' := by
    match rest, HL with
    | [], HL => have := HL.out.2.2.1; simp at this
    | [x0], HL => have := HL.out.2.2.1; simp at this; omega
    | x0 :: x1 :: rest', _ => exact ⟨x0, x1, rest', rfl⟩
  have HB' : Hid ((pairCells B').length = r * 2 ∧ rest'.length = c * 2) := by
    have h1 := HL.out.2.1
    have h2 := HL.out.2.2.1
    rw [pairCells_length] at h1
    simp at h1 h2
    exact ⟨by rw [pairCells_length]; omega, by omega⟩
  have HG0 : Hid (w.drew.heap[g]? = some (.cells (pairCells A ++ [Value.string b0.1, .string b0.2] ++ (pairCells B' ++ [x0, x1]) ++ rest').toArray 43 (0, 0))) := by
    show _ = _
    refine HG.out.1.trans ?_
    simp [pairCells]
  have HG1 : Hid ((w.drew.setCells g ((a + 1) * 2) (pairCells (b0 :: B'))).heap[g]? = some (.cells (pairCells A ++ [Value.string b0.1, .string b0.2] ++ pairCells (b0 :: B') ++ rest').toArray 43 (0, 0))) := by
    have := setCells_list (w := w.drew) (g := g) (t := 43) (pairCells A ++ [Value.string b0.1, .string b0.2]) (pairCells B' ++ [x0, x1]) rest' (pairCells (b0 :: B')) HG0.out (by have h1 := HL.out.2.1; have h2 := HB'.out.1; rw [h1, List.length_append, h2]; simp; omega)
    have hl : (pairCells A ++ [Value.string b0.1, .string b0.2]).length = (a + 1) * 2 := by rw [List.length_append, HL.out.1]; simp; omega
    rw [hl] at this
    exact this
  have HC1 : Hid (∀ j, j < (pairCells (b0 :: B')).length → (w.drew.cell? ⟨g, (a + 1) * 2 + j, none⟩).isSome = true) := by
    intro j hj
    have h1 := HL.out.2.1
    rw [cell_at HG0.out (Array.getElem?_eq_getElem (show (a + 1) * 2 + j < _ by have h2 := HL.out.1; have h3 := HB'.out; simp; omega))]
    rfl
  have hcp1 : ∀ ty dl dc sl sc, dl = r + 1 → sl = r + 2 → (Builtin.copy_ #[34, 34] ty #[.slice (some ⟨g, (a + 1) * 2, none⟩) dl dc, .slice (some ⟨g, a * 2, none⟩) sl sc]).run Tryz.prog w.drew = .ok (goInt (r + 1 : Nat)) (w.drew.setCells g ((a + 1) * 2) (pairCells (b0 :: B'))) := fun ty dl dc sl sc hdl hsl => by
    refine run_copy_wide w.drew _ _ ty 43 2 g ((a + 1) * 2) dl dc ⟨g, a * 2, none⟩ sl sc (r + 1) (pairCells (b0 :: B')) Tryz.underlying34 hszM (by simp only [Nat.min_def]; split <;> omega) HL.out.2.1 (fun j v hj => ?_) HC1.out (fun j hj => frozen_at _ HG0.out) (pairCells_one _)
    rw [Addr.add_mid]
    refine cell_at HG.out.1 ?_
    rw [List.getElem?_toArray, pairCells_append, List.append_assoc, List.getElem?_append_right (by rw [HL.out.1]; omega), HL.out.1, show a * 2 + j - a * 2 = j by omega, List.getElem?_append_left ((List.getElem?_eq_some_iff.1 hj).1)]
    exact hj
  have HCP1 := @id (Hid _) hcp1
  obtain ⟨W1, hW1⟩ : ∃ W1, W1 = w.drew.setCells g ((a + 1) * 2) (pairCells (b0 :: B')) := ⟨_, rfl⟩
  rw [← hW1] at HG1 HCP1
  have HF1 : Hid ((∀ k, k ≠ g → W1.heap[k]? = w.heap[k]?) ∧ Below 0 w W1) := by
    obtain ⟨f1, f2⟩ := setCells_frame (pairCells (b0 :: B')) w.drew g ((a + 1) * 2)
    rw [hW1]
    exact ⟨f1, (Below.refl _ _).drew.trans f2⟩
  clear hcp1 hW1 HC1
  have hcp2 : ∀ ty dl dc, 1 ≤ dl → (Builtin.copy_ #[34, 34] ty #[.slice (some ⟨g, a * 2, none⟩) dl dc, .slice (some ⟨gv, 0, none⟩) 1 1]).run Tryz.prog W1 = .ok (goInt (1 : Nat)) (W1.setCells g (a * 2) [.string p.1, .string p.2]) := fun ty dl dc hdl => by
    have hgv1 := (HF1.out.1 gv hne).trans HG.out.2
    refine run_copy_wide W1 _ _ ty 43 2 g (a * 2) dl dc ⟨gv, 0, none⟩ 1 1 1 [.string p.1, .string p.2] Tryz.underlying34 hszM (by simp only [Nat.min_def]; split <;> omega) rfl (fun j v hj => ?_) (fun j hj => ?_) (fun j hj => frozen_at _ HG1.out) (by intro v hv; simp at hv; rcases hv with rfl | rfl <;> rfl)
    · rw [add_zero0]; exact cell_at hgv1 (by simpa using hj)
    · rw [cell_at HG1.out (Array.getElem?_eq_getElem (show a * 2 + j < _ by have h2 := HL.out.1; simp at hj ⊢; omega))]
      rfl
  have HCP2 := @id (Hid _) hcp2
  clear hcp2
  have HFIN : Hid (Inserted w (W1.setCells g (a * 2) [.string p.1, .string p.2]) (.slice (some ⟨g, 0, none⟩) (a + 1 + r) (a + 1 + r + 1 + c)) (.slice (some ⟨g, 0, none⟩) (a + 1 + r + 1) (a + 1 + r + 1 + c)) (a + 1 + r + 1) (A ++ p :: b0 :: B')) := by
    obtain ⟨f1, f2⟩ := setCells_frame [Value.string p.1, .string p.2] W1 g (a * 2)
    refine ⟨?_, fun k _ hk => (f1 k (fun e => hk (by rw [e]; rfl))).trans (HF1.out.1 k (fun e => hk (by rw [e]; rfl))), .inl rfl, HF1.out.2.trans f2⟩
    have h4 := setCells_list (w := W1) (g := g) (t := 43) (pairCells A) [Value.string b0.1, .string b0.2] (pairCells (b0 :: B') ++ rest') [Value.string p.1, .string p.2] (HG1.out.trans (by simp)) rfl
    rw [HL.out.1] at h4
    refine owns_of (rest := rest') (Nat.zero_le _) (h4.trans (by simp [pairCells])) ?_ ?_ (by omega) HL.out.2.2.2
    · have h1 := HL.out.1; have h2 := HL.out.2.1
      rw [pairCells_length] at h1 h2 ⊢
      simp at h1 h2 ⊢
      omega
    · have h1 := HL.out.1; have h2 := HL.out.2.1; have h3 := HB'.out.2
      rw [pairCells_length] at h1 h2 ⊢
      simp at h1 h2 ⊢
      omega
  have q1 : ¬ (a + 1 + r + 1 + c = a + 1) := by omega
  have q2 : ¬ (a + 1 + r + 1 + c = a) := by omega
  have q3 : a ≤ a + 1 + r + 1 := by omega
  have q4 : a + 1 ≤ a + 1 + r + 1 := by omega
  have q5 : IntKind.i64.wrap ((a : Int) + 1) = (a : Int) + 1 := by rw [IntKind.wrap_i64]; omega
  have q6 : ((a : Int) + 1).toNat = a + 1 := by omega
  have hq : ∀ ty dc sc, Sem.run Tryz.prog (Builtin.copy_ #[34, 34] ty #[.slice (some ⟨g, (a + 1) * 2, none⟩) (a + 1 + r - a) dc, .slice (some ⟨g, a * 2, none⟩) (a + 1 + r + 1 - a) sc]) w.drew = .ok (goInt (r + 1 : Nat)) W1 := fun ty dc sc => HCP1.out ty _ dc _ sc (by omega) (by omega)
  go_region
  clear hq
  have hq2 : ∀ ty dc, Sem.run Tryz.prog (Builtin.copy_ #[34, 34] ty #[.slice (some ⟨g, a * 2, none⟩) (a + 1 + r + 1 - a) dc, .slice (some ⟨gv, 0, none⟩) 1 1]) W1 = .ok (goInt (1 : Nat)) (W1.setCells g (a * 2) [.string p.1, .string p.2]) := fun ty dc => HCP2.out ty _ dc (by omega)
  go_wp2
  go_ret
  exact ⟨_, rfl, HFIN.out⟩
end Go.Proofs.YtihbngfbcnojcaaGreat
