import Derived.Test.YtihbngfbcnojcaaGreatHidC11
namespace Go.Proofs.YtihbngfbcnojcaaGreat
open Go.RowKit

/-- What a table of cells says of a key. -/
def cellOf (M : DataW Value) (key : ByteArray) : Bool × ByteArray := (wroteIn M key).getD (false, ByteArray.empty)

theorem cell_look {w : World} {b n : Nat} {M : DataW Value} (hM : MapOf w 9 b n M) (hc : CellsOk M) (key : ByteArray) (hks : key.size ≤ 1000) :
    (Instr.lookup 138 (.map (some b)) (.string key) false).run Tryz.prog w = .ok (.agg #[.bool (cellOf M key).1, .string (cellOf M key).2]) w := by
  obtain ⟨mv, hr, hv⟩ := hM.look (Maps.string_keyed Tryz.underlying9) Tryz.underlying138 (z := .agg #[.bool false, .string ByteArray.empty]) (Tryz.zeroValue38 _) (key_str key hks)
  rcases hc key with h1 | ⟨is, val, _, _, h1⟩
  · rw [h1] at hv
    simp only [DataW.held.injEq] at hv
    subst hv
    have : cellOf M key = (false, ByteArray.empty) := by unfold cellOf wroteIn; rw [h1]; rfl
    rw [this]; exact hr
  · rw [h1] at hv
    simp only [DataW.held.injEq] at hv
    subst hv
    have : cellOf M key = (is, val) := by unfold cellOf wroteIn; rw [h1]; rfl
    rw [this]; exact hr

/-- Of these keys, those under which something stands, with it. -/
def pairsOf (M : DataW Value) (ks : List ByteArray) : Pairs := ks.filterMap fun k => if (cellOf M k).1 then some (k, (cellOf M k).2) else none
theorem pairsOf_snoc (M : DataW Value) (ks : List ByteArray) (k : ByteArray) : pairsOf M (ks ++ [k]) = if (cellOf M k).1 then pairsOf M ks ++ [(k, (cellOf M k).2)] else pairsOf M ks := by
  unfold pairsOf
  rw [List.filterMap_append]
  cases h : (cellOf M k).1 <;> simp [h]
theorem pairsOf_length (M : DataW Value) (ks : List ByteArray) : (pairsOf M ks).length ≤ ks.length := List.length_filterMap_le _ _
theorem pairsOf_mem {M : DataW Value} {ks : List ByteArray} {p : ByteArray × ByteArray} (h : p ∈ pairsOf M ks) : p.1 ∈ ks ∧ cellOf M p.1 = (true, p.2) := by
  obtain ⟨k, hk, he⟩ := List.mem_filterMap.1 h
  by_cases hc : (cellOf M k).1 = true
  · rw [if_pos hc] at he
    simp only [Option.some.injEq] at he
    subst he
    exact ⟨hk, Prod.ext hc rfl⟩
  · rw [if_neg hc] at he; cases he
theorem pairsOf_rising {M : DataW Value} : ∀ {ks : List ByteArray}, ks.Pairwise blt → (pairsOf M ks).Pairwise (fun a b => blt a.1 b.1)
  | [], _ => List.Pairwise.nil
  | k :: r, h => by
    obtain ⟨h1, h2⟩ := List.pairwise_cons.1 h
    have ih := pairsOf_rising (M := M) h2
    unfold pairsOf
    rw [List.filterMap_cons]
    by_cases hc : (cellOf M k).1 = true
    · rw [if_pos hc]
      exact List.pairwise_cons.2 ⟨fun p hp => h1 _ (pairsOf_mem (M := M) hp).1, ih⟩
    · rw [if_neg hc]; exact ih
theorem pairsOf_under {M : DataW Value} {ks : List ByteArray} (h : KeysOf M ks) (key : ByteArray) : under (pairsOf M ks) key = if (cellOf M key).1 then (true, (cellOf M key).2) else (false, ByteArray.empty) := by
  by_cases hc : (cellOf M key).1 = true
  · rw [if_pos hc]
    have hk : key ∈ ks := by
      refine (h.mem key).2 ?_
      cases hb : Maps.has M (lit key)
      · have : cellOf M key = (false, ByteArray.empty) := by unfold cellOf wroteIn; rw [Maps.atKey_of_not_has hb]; rfl
        rw [this] at hc; cases hc
      · rfl
    have hm : (key, (cellOf M key).2) ∈ pairsOf M ks := List.mem_filterMap.2 ⟨key, hk, by rw [if_pos hc]⟩
    obtain ⟨A, B, e⟩ := List.append_of_mem hm
    have hr := pairsOf_rising (M := M) h.rise
    rw [e] at hr ⊢
    have hA : ∀ p ∈ A, p.1 ≠ key := fun p hp => blt_ne ((List.pairwise_append.1 hr).2.2 p hp (key, (cellOf M key).2) (by simp))
    rw [under_append hA, under, if_pos rfl]
  · rw [if_neg hc]
    exact under_not fun p hp e => by
      have := (pairsOf_mem hp).2
      rw [e] at this
      rw [this] at hc
      exact hc rfl

set_option maxRecDepth 100000 in
set_option maxHeartbeats 2000000 in
/-- way.sorted: the cells that are something, by rising keys. -/
theorem sorted_any {w : World} {b n : Nat} {M : DataW Value} (hM : MapOf w 9 b n M) (hc : CellsOk M) (hn : n ≤ 100000) :
    Calls Tryz.prog 78 #[.map (some b)] w fun e w' => ∃ v ks, e = .returned v ∧ KeysOf M ks ∧ w'.ownsRow w.heap.size 43 2 v (pairsOf M ks).length (pairCells (pairsOf M ks)) ∧ Below w.heap.size w w' := by
  have KK : Hid (Calls Tryz.prog 110 #[.map (some b)] w fun e w' => e = .returned (.func (.func 156) #[] #[.pointer (some ⟨w.heap.size, 0, none⟩)]) ∧ w' = w.alloc (.cells #[.map (some b)] 138)) := mapsKeys_any _ w
  have KS := @id (Hid (Calls _ _ _ (w.alloc _) _)) (sortedKeys_of hM hn)
  have HM : Hid (MapOf w 9 b n M ∧ Maps.size M ≤ 100000) := ⟨hM, Nat.le_trans (World.ownsMap.size_le hM) hn⟩
  have HC : Hid (CellsOk M) := hc
  clear hM hc
  go_enter Tryz.func78, Tryz.ntmps78
  go_wp2_with (first
    | (go_at_call 110; go_must (
        refine KK.out.mono ?_
        rintro e w0 ⟨rfl, rfl⟩))
    | (go_at_call 109; go_must (
        refine KS.out.mono ?_
        rintro e w1 ⟨v, ks, rfl, hks, hrow, hb1⟩
        obtain ⟨p, cap, rfl, hmax⟩ := owns_slice' hrow
        have HKS : Hid (KeysOf M ks) := hks
        have HROW : Hid (w1.ownsRow w.heap.size 9 1 (.slice p ks.length cap) ks.length (ks.map Value.string)) := hrow
        have HB1 : Hid (Below w.heap.size w w1) := hb1
        have hkl : ks.length ≤ 100000 := by rw [hks.len]; exact HM.out.2
        clear hks hrow hb1 hmax)))
  have HMW : Hid (MapOf w1 9 b n M) := HM.out.1.below HB1.out
  go_loopw [3, 11] (fun u i wr => ∃ k : Nat, k ≤ ks.length ∧ i = .int .i64 k ∧ wr.ownsRow w1.heap.size 43 2 u (pairsOf M (ks.take k)).length (pairCells (pairsOf M (ks.take k))) ∧ Below w1.heap.size w1 wr) (fun _ i _ => ks.length - (intOf i).toNat)
  case atStart => exact ⟨0, by omega, rfl, World.ownsRow_nil _ _ _ _, Below.refl _ _⟩
  case round =>
    obtain ⟨k, hk, rfl, hout, hbr⟩ := hrel
    have HBR : Hid (Below w1.heap.size w1 wr) := hbr
    have hsz := hbr.size
    by_cases hlt : k < ks.length
    · have hlt' : (k : Int) < (ks.length : Int) := by omega
      have hownr := owns_below HROW.out hbr (fun g hg => (HROW.out.lt g hg).2)
      obtain ⟨g, cap', he⟩ := owns_some hownr (by omega)
      simp only [Value.slice.injEq] at he
      obtain ⟨rfl, -, rfl⟩ := he
      have c0 : wr.cell? ⟨g, k, none⟩ = some (.string ks[k]) := owns_cell hownr (by simp [hlt])
      have hksz : ks[k].size ≤ 8 := by
        have h1 := (HKS.out.mem ks[k]).1 (List.getElem_mem hlt)
        rcases HC.out ks[k] with h2 | ⟨_, _, h2, _⟩
        · rw [Maps.has_false_of_atKey h2] at h1; cases h1
        · exact h2
      have hlk := cell_look (HMW.out.below hbr) HC.out ks[k] (by omega)
      have hT : ks.take (k + 1) = ks.take k ++ [ks[k]] := by simp
      have HS : Hid (pairsOf M (ks.take (k + 1)) = if (cellOf M ks[k]).1 then pairsOf M (ks.take k) ++ [(ks[k], (cellOf M ks[k]).2)] else pairsOf M (ks.take k)) := by show _ = _; rw [hT]; exact pairsOf_snoc _ _ _
      have hL : (pairsOf M (ks.take k)).length ≤ 100000 := Nat.le_trans (pairsOf_length _ _) (by simp; omega)
      clear hbr hownr hT
      generalize pairsOf M (ks.take k) = out at hout hL HS
      generalize cellOf M ks[k] = c at hlk HS
      generalize ks[k] = kk at c0 hlk HS hksz
      obtain ⟨ci, cv⟩ := c
      simp only at hlk HS
      have HOUT : Hid (wr.ownsRow w1.heap.size 43 2 _ out.length (pairCells out)) := hout
      clear hout
      have HB2 : Hid (Below w1.heap.size w1 (wr.alloc (.cells #[.bool ci, .string cv] 38))) := HBR.out.alloc hsz _
      cases ci with
      | false =>
        simp only [Bool.false_eq_true, if_false] at HS
        go_wp2
        refine ⟨⟨k + 1, by omega, by simp, ?_, HB2.out⟩, by simp [intOf]; omega⟩
        rw [HS.out]; exact HOUT.out.alloc _
      | true =>
        simp only [if_true] at HS
        go_wp2_with (first
          | (at_builtin; go_must (
              refine wpList_append_pair rfl _ _ rfl w1.heap.size _ out rfl ((HOUT.out.alloc _).alloc _) (wr.heap.size + 1) kk cv rfl (by simpa using heap_alloc_new (wr.alloc (.cells #[.bool true, .string cv] 38)) _) (by omega) (by simp; omega) ?_
              intro v5 w5 hown5 hb5
              have HO5 := @id (Hid (World.ownsRow w5 _ _ _ _ _ _)) hown5
              have HB5 : Hid (Below w1.heap.size w1 w5) := HB2.out.trans (((Below.refl _ _).alloc (by simp; omega) _).trans hb5)
              clear hown5 hb5)))
        refine ⟨⟨k + 1, by omega, by simp, ?_, HB5.out⟩, by simp [intOf]; omega⟩
        rw [HS.out]; exact HO5.out
    · have hlt' : ¬ (k : Int) < (ks.length : Int) := by omega
      obtain rfl : k = ks.length := by omega
      rw [List.take_length] at hout
      have HOUT := @id (Hid (World.ownsRow wr _ _ _ _ _ _)) hout
      clear hout hbr
      go_wp2
      go_ret
      exact ⟨_, rfl, ks, HKS.out, owns_base HOUT.out HB1.out.size, HB1.out.trans (HBR.out.mono HB1.out.size)⟩
end Go.Proofs.YtihbngfbcnojcaaGreat

namespace Go.Proofs.YtihbngfbcnojcaaGreat
open Go.RowKit

/-- A page has keys of its own bucket alone. -/
def Buck (s : Sv) : Prop := ∀ n, n < 8 → ∀ p ∈ s.cont n, bucket p.1 = n

theorem under_of_mem : ∀ {l : Pairs} {key v : ByteArray}, (∀ p ∈ l, p.1 = key → p.2 = v) → (∃ p ∈ l, p.1 = key) → under l key = (true, v)
  | [], _, _, _, h => by obtain ⟨p, hp, _⟩ := h; cases hp
  | p :: r, key, v, h1, h2 => by
    rw [under]
    by_cases hp : p.1 = key
    · rw [if_pos hp, h1 p (by simp) hp]
    · rw [if_neg hp]
      refine under_of_mem (fun q hq => h1 q (by simp [hq])) ?_
      obtain ⟨q, hq, he⟩ := h2
      rcases List.mem_cons.1 hq with rfl | hq
      · exact absurd he hp
      · exact ⟨q, hq, he⟩
theorem under_cases (l : Pairs) (key : ByteArray) : (∃ p ∈ l, p.1 = key ∧ under l key = (true, p.2)) ∨ ((∀ p ∈ l, p.1 ≠ key) ∧ under l key = (false, ByteArray.empty)) := by
  induction l with
  | nil => exact .inr ⟨fun p hp => (List.not_mem_nil hp).elim, rfl⟩
  | cons p r ih =>
    rw [under]
    by_cases hp : p.1 = key
    · exact .inl ⟨p, by simp, hp, by rw [if_pos hp]⟩
    · rw [if_neg hp]
      rcases ih with ⟨q, hq, h1, h2⟩ | ⟨h1, h2⟩
      · exact .inl ⟨q, by simp [hq], h1, h2⟩
      · exact .inr ⟨fun q hq => by
          rcases List.mem_cons.1 hq with rfl | hq
          · exact hp
          · exact h1 q hq, h2⟩
theorem rising_uniq {ps : Pairs} (h : RisingAt ps) {p q : ByteArray × ByteArray} (hp : p ∈ ps) (hq : q ∈ ps) (e : p.1 = q.1) : p = q := by
  obtain ⟨i, hi, rfl⟩ := List.getElem_of_mem hp
  obtain ⟨j, hj, rfl⟩ := List.getElem_of_mem hq
  rcases Nat.lt_trichotomy i j with h1 | h1 | h1
  · exact absurd e (blt_ne (h i j hi hj h1))
  · subst h1; rfl
  · exact absurd e.symm (blt_ne (h j i hj hi h1))

/-- All pages' pairs, up to a place. -/
def colTo (s : Sv) (n j : Nat) : Pairs := (List.range n).flatMap s.cont ++ (s.cont n).take j
theorem colTo_next (s : Sv) (n : Nat) : colTo s n (s.cont n).length = colTo s (n + 1) 0 := by
  unfold colTo
  rw [List.range_succ, List.flatMap_append, List.take_length, List.take_zero]
  simp
theorem colTo_snoc (s : Sv) (n j : Nat) (h : j < (s.cont n).length) : colTo s n (j + 1) = colTo s n j ++ [(s.cont n)[j]] := by
  unfold colTo
  rw [List.append_assoc]
  simp
theorem colTo_under {s : Sv} (g : Good s) (hb : Buck s) (key : ByteArray) : under (colTo s 8 0).reverse key = under (s.cont (bucket key)) key := by
  have hm : ∀ p, p ∈ (colTo s 8 0).reverse ↔ ∃ n, n < 8 ∧ p ∈ s.cont n := fun p => by
    unfold colTo
    simp
  rcases under_cases (s.cont (bucket key)) key with ⟨p, hp, h1, h2⟩ | ⟨h1, h2⟩
  · rw [h2]
    refine under_of_mem (fun q hq e => ?_) ⟨p, (hm p).2 ⟨_, bucket_lt key, hp⟩, h1⟩
    obtain ⟨n, hn, hq'⟩ := (hm q).1 hq
    have : n = bucket key := by rw [← hb n hn q hq', e]
    subst this
    rw [rising_uniq (g.rise _ hn).1 hq' hp (by rw [e, h1])]
  · rw [h2]
    exact under_not fun q hq e => by
      obtain ⟨n, hn, hq'⟩ := (hm q).1 hq
      have : n = bucket key := by rw [← hb n hn q hq', e]
      subst this
      exact h1 q hq' e

/-- Beside a step something of one's own is changed. -/
theorem Goes.beside {w w1 w2 : World} {s s' : Sv} (h : Goes w w1 s s') {mb : Nat} (hm : w.heap.size ≤ mb) (hn : ∀ tag, s'.blk tag ≠ some mb) (hk : ∀ q, q < w1.heap.size → q ≠ mb → w2.heap[q]? = w1.heap[q]?) (hb : Below 0 w1 w2) : Goes w w2 s s' := by
  have hz := h.below.size
  refine ⟨h.lies.frame (fun tag k hk' => hk k (h.lies.lt tag k hk') (fun e => hn tag (by rw [← e]; exact hk'))) hb.size, h.good, h.grown, fun q hq hnt => ?_, h.below.trans hb⟩
  exact (hk q (by omega) (by omega)).trans (h.off q hq hnt)

theorem cellOf_put {M : DataW Value} (hm : Maps.IsMap M) (k key : ByteArray) (is : Bool) (v : ByteArray) : cellOf (M.put (lit k) (.held (.agg #[.bool is, .string v]))) key = if key = k then (is, v) else cellOf M key := by
  by_cases hs : key = k
  · subst hs
    rw [if_pos rfl]
    unfold cellOf wroteIn
    rw [Maps.atKey_put_same hm (by simp [WideAt.IsKeyLit])]
    rfl
  · rw [if_neg hs]
    unfold cellOf wroteIn
    rw [Maps.atKey_put_other (fun e => hs (lit_inj e))]

/-- A new table of the pages' pairs. -/
structure CellsAt (w : World) (b n : Nat) (M : DataW Value) (l : Pairs) : Prop where
  map : MapOf w 9 b n M
  ok : CellsOk M
  num : n ≤ l.length
  says : ∀ key, cellOf M key = under l.reverse key

set_option maxRecDepth 100000 in
set_option maxHeartbeats 4000000 in
/-- pool.cells: what all pages hold. -/
theorem cells_step {w : World} {s : Sv} (h : Lies w s) (g : Good s) :
    Calls Tryz.prog 79 #[.pointer (some ⟨s.kb, 2, none⟩)] w fun e w' => e = .returned (.map (some w.heap.size)) ∧ ∃ n M s', CellsAt w' w.heap.size n M (colTo s 8 0) ∧ Paged s s' ∧ Goes w w' s s' ∧ ∀ tag, s'.blk tag ≠ some w.heap.size := by
  have hmm := @run_makeMap Tryz.prog
  have hSK : Maps.Keyed Tryz.prog 9 := Maps.string_keyed Tryz.underlying9
  have hB0 : Below w.heap.size w (w.alloc (.map #[] 0)) := (Below.refl _ w).alloc (Nat.le_refl _) _
  have HST : Hid (∃ n M s', CellsAt (w.alloc (.map #[] 0)) w.heap.size n M (colTo s 0 0) ∧ Paged s s' ∧ Goes w (w.alloc (.map #[] 0)) s s' ∧ ∀ tag, s'.blk tag ≠ some w.heap.size) :=
    ⟨0, .map [], s, ⟨World.ownsMap_made w Tryz.prog 9 asIs, CellsOk.empty, Nat.zero_le _, fun key => by
      unfold cellOf wroteIn
      rw [Maps.atKey_of_not_has (by simp [Maps.has_eq])]
      simp [colTo, under, cellIn]⟩, Paged.refl s, Goes.of_below h g hB0, fun tag ht => by have := h.lt tag _ ht; omega⟩
  have KP : Hid (∀ (W : World) (sX : Sv) (n nM : Nat) (M : DataW Value), n < 8 → CellsAt W w.heap.size nM M (colTo s n 0) → Paged s sX → Goes w W s sX → (∀ tag, sX.blk tag ≠ some w.heap.size) → Calls Tryz.prog 111 #[.pointer (some ⟨s.kb, 2, none⟩), .int .i64 (n : Int)] W fun e w' => ∃ gb x cp, e = .returned (.pointer (some ⟨gb, 0, none⟩)) ∧ w'.cell? ⟨gb, 1, none⟩ = some (.slice x (s.cont n).length cp) ∧ w'.ownsRow 0 43 2 (.slice x (s.cont n).length cp) (s.cont n).length (pairCells (s.cont n)) ∧ (Value.slice x (s.cont n).length cp).ownBlock ≠ some w.heap.size ∧ CellsAt w' w.heap.size nM M (colTo s n 0) ∧ ∃ s', Paged s s' ∧ Goes w w' s s' ∧ ∀ tag, s'.blk tag ≠ some w.heap.size) := fun W sX n nM M hn hc hp hg hnb => by
    have hkb : sX.kb = s.kb := hp.same.1
    rw [← hkb]
    refine (page_step hg.lies hg.good n hn).mono ?_
    rintro e w' ⟨s', p, rfl, h1, h2, h3⟩
    have hmb := hc.map.lt
    have hnb' : ∀ tag, s'.blk tag ≠ some w.heap.size := fun tag ht => by
      rcases h3.grown tag _ ht with h4 | h4
      · exact hnb tag h4
      · omega
    have hp' := hp.trans h2
    have hct : s'.cont = s.cont := hp'.same.2.2.1
    have hpg := h3.lies.comp (.page n) p h1
    have hrow := h3.lies.comp (.row n) p h1
    rw [hct] at hrow
    obtain ⟨x, cp, hx, _⟩ := owns_slice' hrow
    rw [hx] at hrow hpg
    exact ⟨p.g, x, cp, rfl, cell_at (j := 1) hpg rfl, hrow, by rw [← hx]; exact fun e => hnb' (.row n) (by rw [blk_row h1]; exact e), ⟨hc.map.kept (h3.off _ hmb hnb), hc.ok, hc.num, hc.says⟩, s', hp', hg.trans h3, hnb'⟩
  have HRI : Hid (∀ n, n < 8 → (s.cont n).length ≤ 4 ∧ ∀ p ∈ s.cont n, p.1.size ≤ 8 ∧ p.2.size ≤ 12) := fun n hn => (g.rise n hn).2
  generalize hkb : s.kb = kb at KP ⊢
  clear h g hB0
  go_enter Tryz.func79, Tryz.ntmps79
  go_wp2
  go_loopw [8] (fun i wr => ∃ n : Nat, n ≤ 8 ∧ i = .int .i64 n ∧ ∃ nM M s', CellsAt wr w.heap.size nM M (colTo s n 0) ∧ Paged s s' ∧ Goes w wr s s' ∧ ∀ tag, s'.blk tag ≠ some w.heap.size) (fun i _ => 8 - (intOf i).toNat)
  case atStart => exact ⟨0, by omega, rfl, HST.out⟩
  case round =>
    obtain ⟨n, hn, rfl, nM, M, sX, hcA, hpA, hgA, hnA⟩ := hrel
    have HA : Hid (CellsAt wr w.heap.size nM M (colTo s n 0) ∧ Paged s sX ∧ Goes w wr s sX ∧ ∀ tag, sX.blk tag ≠ some w.heap.size) := ⟨hcA, hpA, hgA, hnA⟩
    clear hcA hpA hgA hnA
    by_cases hlt : n < 8
    · have hlt' : (n : Int) < 8 := by omega
      obtain ⟨wa, rfl⟩ : ∃ wa, wa = wr := ⟨_, rfl⟩
      obtain ⟨hps4, hpsz⟩ := HRI.out n hlt
      have HPS : Hid (∀ p ∈ s.cont n, p.1.size ≤ 8 ∧ p.2.size ≤ 12) := hpsz
      clear hpsz
      go_wp2_with (first
        | (go_at_call 111; go_must (
            refine (KP.out wa sX n nM M hlt HA.out.1 HA.out.2.1 HA.out.2.2.1 HA.out.2.2.2).mono ?_
            rintro e w1 ⟨gb, x, cp, rfl, cg, hrow, hno, hcB, hrest⟩
            have HROW : Hid (w1.ownsRow 0 43 2 (.slice x (s.cont n).length cp) (s.cont n).length (pairCells (s.cont n))) := hrow
            have HNO : Hid ((Value.slice x (s.cont n).length cp).ownBlock ≠ some w.heap.size) := hno
            have HCB : Hid (CellsAt w1 w.heap.size nM M (colTo s n 0)) := hcB
            have HRE : Hid (∃ s', Paged s s' ∧ Goes w w1 s s' ∧ ∀ tag, s'.blk tag ≠ some w.heap.size) := hrest
            clear hrow hno hcB hrest)))
      go_loopw [18] (fun i wr => ∃ (j nK : Nat) (K : DataW Value), j ≤ (s.cont n).length ∧ i = .int .i64 j ∧ CellsAt wr w.heap.size nK K (colTo s n j) ∧ (∀ q, q < w1.heap.size → q ≠ w.heap.size → wr.heap[q]? = w1.heap[q]?) ∧ Below 0 w1 wr) (fun i _ => (s.cont n).length - (intOf i).toNat)
      case atStart => exact ⟨0, nM, M, by omega, rfl, HCB.out, fun _ _ _ => rfl, Below.refl _ _⟩
      case round =>
        obtain ⟨j, nK, K, hj, rfl, hcK, hfr, hbw⟩ := hrel
        have HCK : Hid (CellsAt wr w.heap.size nK K (colTo s n j)) := hcK
        have HFR : Hid (∀ q, q < w1.heap.size → q ≠ w.heap.size → wr.heap[q]? = w1.heap[q]?) := hfr
        have HBW : Hid (Below 0 w1 wr) := hbw
        have hzw : w.heap.size < wr.heap.size := hcK.map.lt
        have HOR : Hid (wr.ownsRow 0 43 2 (.slice x (s.cont n).length cp) (s.cont n).length (pairCells (s.cont n))) := owns_off HROW.out (fun q hq => hfr q (HROW.out.lt q hq).2 (fun e => HNO.out (by rw [hq, e])))
        clear hcK hfr hbw cg hmm
        by_cases hltj : j < (s.cont n).length
        · have hltj' : (j : Int) < ((s.cont n).length : Int) := by omega
          obtain ⟨g2, cap', he⟩ := owns_some HOR.out (by omega)
          simp only [Value.slice.injEq] at he
          obtain ⟨rfl, -, rfl⟩ := he
          obtain ⟨hc0, hc1⟩ := pairCells_at (s.cont n) j (s.cont n)[j] (List.getElem?_eq_getElem hltj)
          have c0 := owns_cell HOR.out hc0
          have c1 := owns_cell HOR.out hc1
          have hpk : (s.cont n)[j].1.size ≤ 8 ∧ (s.cont n)[j].2.size ≤ 12 := HPS.out _ (List.getElem_mem hltj)
          have HSN : Hid (colTo s n (j + 1) = colTo s n j ++ [(s.cont n)[j]]) := colTo_snoc s n j hltj
          have hnum : nK ≤ 1000 := by
            have h1 := HCK.out.num
            have h2 : (colTo s n j).length ≤ 4 * n + 4 := by
              unfold colTo
              rw [List.length_append]
              have h3 : ∀ m, m ≤ 8 → ((List.range m).flatMap s.cont).length ≤ 4 * m := fun m => by
                induction m with
                | zero => intro _; simp
                | succ m ih =>
                  intro hm
                  rw [List.range_succ, List.flatMap_append, List.length_append]
                  have := ih (by omega)
                  have := (HRI.out m (by omega)).1
                  have e1 : ([m].flatMap s.cont).length = (s.cont m).length := by simp
                  omega
              have := h3 n hn
              have : ((s.cont n).take j).length ≤ 4 := by simp; omega
              omega
            omega
          clear hc0 hc1
          generalize (s.cont n)[j] = pj at c0 c1 hpk HSN
          obtain ⟨pk, pv⟩ := pj
          simp only at c0 c1 hpk
          go_wp2_with (first
            | (at_mapUpdate; go_must (
                refine wpList_mapUpdate_in _ rfl _ _ _ 138 rfl 9 38 hSK Tryz.underlying138 asIs w.heap.size nK K rfl ?hm (by unfold maxLen; omega) (.string pk) (.agg #[.bool true, .string pv]) (lit pk) rfl rfl (key_str pk (by omega)) (.held (.agg #[.bool true, .string pv])) [] rfl ?_
                case hm => exact HCK.out.map.kept (Below.heap_alloc _ _ _ hzw)
                intro w5 hm5 htu5
                have HM5 : Hid (MapOf w5 9 w.heap.size (nK + 1) (K.put (lit pk) (.held (.agg #[.bool true, .string pv])))) := hm5
                have HT5 := @id (Hid (World.mapTurned _ w5 w.heap.size)) htu5
                clear hm5 htu5)))
          obtain ⟨t1, t2, t3⟩ := mapTurned_facts HT5.out
          have hIs := World.ownsMap.isMap HCK.out.map
          refine ⟨⟨j + 1, nK + 1, _, by omega, by simp, ⟨HM5.out, HCK.out.ok.put hIs pk hpk.1 true pv hpk.2, ?_, fun key => ?_⟩, fun q h1 h2 => ?_, ?_⟩, by simp [intOf]; omega⟩
          · rw [HSN.out, List.length_append]
            have := HCK.out.num
            simp
            omega
          · rw [cellOf_put hIs, HSN.out, List.reverse_append, HCK.out.says]
            show _ = under ((pk, pv) :: _) key
            rw [under]
            by_cases he : key = pk
            · rw [if_pos he, if_pos he.symm]
            · rw [if_neg he, if_neg (fun e => he e.symm)]; rfl
          · rw [t1 q h2, Below.heap_alloc _ _ _ (by have := HBW.out.size; omega)]; exact HFR.out q h1 h2
          · exact (HBW.out.alloc (Nat.zero_le _) _).trans t3
        · obtain rfl : j = (s.cont n).length := by omega
          go_wp2
          obtain ⟨s', r1, r2, r3⟩ := HRE.out
          refine ⟨⟨n + 1, by omega, by simp, nK, K, s', ?_, r1, r2.beside (Nat.le_refl _) r3 HFR.out HBW.out, r3⟩, by simp [intOf]; omega⟩
          rw [← colTo_next]; exact HCK.out
    · obtain rfl : n = 8 := by omega
      go_wp2
      go_ret
      exact ⟨rfl, nM, M, sX, HA.out⟩
end Go.Proofs.YtihbngfbcnojcaaGreat

namespace Go.Proofs.YtihbngfbcnojcaaGreat
open Go.RowKit

/-- A list of pairs that is new, and none of the store's own. -/
structure NewPairs (w' : World) (B : Nat) (s' : Sv) (v : Value) (ps : Pairs) : Prop where
  row : w'.ownsRow B 43 2 v ps.length (pairCells ps)
  apart : ∀ tag k, s'.blk tag = some k → k < B
  rise : RisingAt ps

theorem Goes.on_below {w w1 w2 : World} {s s' : Sv} (h : Goes w w1 s s') (hb : Below w1.heap.size w1 w2) : Goes w w2 s s' := h.trans (Goes.of_below h.lies h.good hb)

set_option maxHeartbeats 1000000 in
/-- (*noSteal).Committed: what the pages hold. -/
theorem noStealCommitted_step {w : World} {s : Sv} (h : Lies w s) (g : Good s) (hb : Buck s) :
    Calls Tryz.prog 276 #[.pointer (some ⟨s.kb, 0, none⟩)] w fun e w' => ∃ v B ps s', e = .returned v ∧ w.heap.size ≤ B ∧ NewPairs w' B s' v ps ∧ (∀ key, under ps key = under (s.cont (bucket key)) key) ∧ Paged s s' ∧ Goes w w' s s' := by
  have KC := @id (Hid (Calls _ _ _ w _)) (cells_step h g)
  have HU : Hid (∀ key, under (colTo s 8 0).reverse key = under (s.cont (bucket key)) key) := colTo_under g hb
  have HN : Hid ((colTo s 8 0).length ≤ 1000) := by
    have h3 : ∀ m, m ≤ 8 → ((List.range m).flatMap s.cont).length ≤ 4 * m := fun m => by
      induction m with
      | zero => intro _; simp
      | succ m ih =>
        intro hm
        rw [List.range_succ, List.flatMap_append, List.length_append]
        have := ih (by omega)
        have := (g.rise m (by omega)).2.1
        have e1 : ([m].flatMap s.cont).length = (s.cont m).length := by simp
        omega
    have := h3 8 (by omega)
    show (colTo s 8 0).length ≤ 1000
    unfold colTo
    simp only [List.length_append, List.take_zero, List.length_nil]
    omega
  generalize hkb : s.kb = kb at KC ⊢
  clear h g hb
  go_enter Tryz.func276, Tryz.ntmps276
  go_wp2_with (first
    | (go_at_call 79; go_must (
        refine KC.out.mono ?_
        rintro e w1 ⟨rfl, n, M, s', h1, h2, h3, h4⟩
        have HX : Hid (CellsAt w1 w.heap.size n M (colTo s 8 0) ∧ Paged s s' ∧ Goes w w1 s s') := ⟨h1, h2, h3⟩
        clear h1 h2 h3 h4))
    | (go_at_call 78; go_must (
        refine (sorted_any HX.out.1.map HX.out.1.ok (by have := HX.out.1.num; have := HN.out; omega)).mono ?_
        rintro e w2 ⟨v, ks, rfl, k1, k2, k3⟩
        have HY : Hid (KeysOf M ks ∧ w2.ownsRow w1.heap.size 43 2 v (pairsOf M ks).length (pairCells (pairsOf M ks)) ∧ Below w1.heap.size w1 w2) := ⟨k1, k2, k3⟩
        clear k1 k2 k3)))
  go_ret
  obtain ⟨k1, k2, k3⟩ := HY.out
  obtain ⟨h1, h2, h3⟩ := HX.out
  refine ⟨v, w1.heap.size, pairsOf M ks, s', rfl, h3.below.size, ⟨k2, fun tag k hk => h3.lies.lt tag k hk, rising_pw.2 (pairsOf_rising k1.rise)⟩, fun key => ?_, h2, h3.on_below k3⟩
  rw [pairsOf_under k1, h1.says, HU.out]
  rcases under_cases (s.cont (bucket key)) key with ⟨p, _, _, e⟩ | ⟨_, e⟩ <;> rw [e] <;> rfl

theorem meth_committed_steal (c : Nat) (w : World) : (method 476 234 (.pointer (some ⟨c, 0, none⟩)) "Committed").run Tryz.prog w = .ok (301, .pointer (some ⟨c, 0, none⟩)) w := by kernel_rfl
theorem meth_committed_noSteal (c : Nat) (w : World) : (method 476 224 (.pointer (some ⟨c, 0, none⟩)) "Committed").run Tryz.prog w = .ok (276, .pointer (some ⟨c, 0, none⟩)) w := by kernel_rfl

set_option maxRecDepth 100000 in
set_option maxHeartbeats 1000000 in
/-- (*Store).Dump, over whatever the kind's Committed does. -/
theorem dump_steal {w : World} (a kb : Nat) (R : Value → World → Prop) (ca : w.cell? ⟨a, 2, none⟩ = some (.iface 234 (.pointer (some ⟨kb, 0, none⟩)))) (K : Calls Tryz.prog 301 #[.pointer (some ⟨kb, 0, none⟩)] w fun e w' => ∃ v, e = .returned v ∧ R v w') :
    Calls Tryz.prog 35 #[.pointer (some ⟨a, 0, none⟩)] w fun e w' => ∃ v, e = .returned (.tuple #[v, .int .i64 0]) ∧ R v w' := by
  have HK := @id (Hid (Calls _ _ _ w _)) K
  have hme := meth_committed_steal
  clear K
  go_enter Tryz.func35, Tryz.ntmps35
  go_wp2_with (first
    | (go_at_call 41; refine (dead_not _ _ _ _ ca).mono ?_; rintro e w' ⟨rfl, rfl⟩)
    | (go_at_call 301; go_must (refine HK.out.mono ?_; rintro e w' ⟨v, rfl, hr⟩; have HR : Hid (R v w') := hr; clear hr)))
  go_ret2
  exact ⟨v, rfl, HR.out⟩

set_option maxRecDepth 100000 in
set_option maxHeartbeats 1000000 in
/-- (*Store).Dump, over whatever the kind's Committed does. -/
theorem dump_noSteal {w : World} (a kb : Nat) (R : Value → World → Prop) (ca : w.cell? ⟨a, 2, none⟩ = some (.iface 224 (.pointer (some ⟨kb, 0, none⟩)))) (K : Calls Tryz.prog 276 #[.pointer (some ⟨kb, 0, none⟩)] w fun e w' => ∃ v, e = .returned v ∧ R v w') :
    Calls Tryz.prog 35 #[.pointer (some ⟨a, 0, none⟩)] w fun e w' => ∃ v, e = .returned (.tuple #[v, .int .i64 0]) ∧ R v w' := by
  have HK := @id (Hid (Calls _ _ _ w _)) K
  have hme := meth_committed_noSteal
  clear K
  go_enter Tryz.func35, Tryz.ntmps35
  go_wp2_with (first
    | (go_at_call 41; refine (dead_not _ _ _ _ ca).mono ?_; rintro e w' ⟨rfl, rfl⟩)
    | (go_at_call 276; go_must (refine HK.out.mono ?_; rintro e w' ⟨v, rfl, hr⟩; have HR : Hid (R v w') := hr; clear hr)))
  go_ret2
  exact ⟨v, rfl, HR.out⟩
end Go.Proofs.YtihbngfbcnojcaaGreat

namespace Go.Proofs.YtihbngfbcnojcaaGreat
open Go.RowKit

/-- What the pages hold when these keys were set. -/
def contAfter (c : Nat → Pairs) (M : DataW Value) : List ByteArray → Nat → Pairs
  | [] => c
  | k :: r => contAfter (fun n => if n = bucket k then withL (c n) k (cellOf M k).1 (cellOf M k).2 else c n) M r
theorem contAfter_snoc (M : DataW Value) : ∀ (l : List ByteArray) (c : Nat → Pairs) (k : ByteArray), contAfter c M (l ++ [k]) = fun n => if n = bucket k then withL (contAfter c M l n) k (cellOf M k).1 (cellOf M k).2 else contAfter c M l n
  | [], _, _ => rfl
  | _ :: r, _, k => contAfter_snoc M r _ k

theorem contAfter_facts {c : Nat → Pairs} (M : DataW Value) (hr : ∀ n, n < 8 → RisingAt (c n)) : ∀ (l : List ByteArray), (∀ n, n < 8 → RisingAt (contAfter c M l n)) ∧ (∀ n, n < 8 → ∀ p ∈ contAfter c M l n, p ∈ c n ∨ (p.1 ∈ l ∧ bucket p.1 = n)) ∧
    (∀ key, (key ∈ l → under (contAfter c M l (bucket key)) key = if (cellOf M key).1 then (true, (cellOf M key).2) else (false, ByteArray.empty)) ∧ (key ∉ l → under (contAfter c M l (bucket key)) key = under (c (bucket key)) key)) := by
  intro l
  have hl : ∃ l', l = List.reverse l' := ⟨l.reverse, by simp⟩
  obtain ⟨l', rfl⟩ := hl
  induction l' with
  | nil => exact ⟨hr, fun n hn p hp => .inl hp, fun key => ⟨fun h => by simp at h, fun _ => by simp [contAfter]⟩⟩
  | cons k r ih =>
    obtain ⟨h1, h2, h3⟩ := ih
    rw [List.reverse_cons, contAfter_snoc]
    refine ⟨fun n hn => ?_, fun n hn p hp => ?_, fun key => ?_⟩
    · by_cases hk : n = bucket k
      · simp only [hk, if_true]; rw [← hk]; exact withL_rising (h1 n hn) _ _ _
      · simp only [hk, if_false]; exact h1 n hn
    · by_cases hk : n = bucket k
      · simp only [hk, if_true] at hp
        rw [← hk] at hp
        rcases withL_mem (h1 n hn) _ _ _ hp with h4 | ⟨_, h4⟩
        · rcases h2 n hn p h4 with h5 | ⟨h5, h6⟩
          · exact .inl h5
          · exact .inr ⟨by simp at h5 ⊢; exact .inl h5, h6⟩
        · rw [h4]; exact .inr ⟨by simp, hk.symm⟩
      · simp only [hk, if_false] at hp
        rcases h2 n hn p hp with h5 | ⟨h5, h6⟩
        · exact .inl h5
        · exact .inr ⟨by simp at h5 ⊢; exact .inl h5, h6⟩
    · by_cases hb : bucket key = bucket k
      · simp only [hb, if_true]
        rw [← hb, under_withL (h1 _ (bucket_lt key))]
        by_cases he : key = k
        · subst he
          exact ⟨fun _ => by simp, fun h => absurd (by simp) h⟩
        · rw [if_neg he]
          exact ⟨fun h => (h3 key).1 (by simpa [he] using h), fun h => (h3 key).2 (by simpa [he] using h)⟩
      · simp only [hb, if_false]
        have he : key ≠ k := fun e => hb (by rw [e])
        exact ⟨fun h => (h3 key).1 (by simpa [he] using h), fun h => (h3 key).2 (by simpa [he] using h)⟩

/-- Behind so many entries of a transaction. -/
structure Ent (s s' : Sv) (t : Int) (x x' : TxE) (n : Nat) : Prop where
  cont : s'.cont = s.cont
  tx : s'.tx = fun u => if u = t then some x' else s.tx u
  xH : x'.H = x.H ∧ x'.nH = x.nH ∧ x'.last ≤ s'.len
  nums : s'.len = s.len + n ∧ s'.acts = s.acts ∧ s'.begun = s.begun ∧ s'.start = s.start
  same : s'.kb = s.kb ∧ s'.mo = s.mo ∧ s'.made = s.made ∧ s'.mt = s.mt ∧ s'.mc = s.mc
theorem Ent.refl {s : Sv} {t : Int} {x : TxE} (hx : s.tx t = some x) (hl : x.last ≤ s.len) : Ent s s t x x 0 :=
  ⟨rfl, by funext u; by_cases hu : u = t
           · rw [if_pos hu, hu]; exact hx
           · rw [if_neg hu], ⟨rfl, rfl, hl⟩, ⟨rfl, rfl, rfl, rfl⟩, rfl, rfl, rfl, rfl, rfl⟩
theorem Ent.paged {s s' s2 : Sv} {t : Int} {x x' : TxE} {n : Nat} (h : Ent s s' t x x' n) (p : Paged s' s2) : Ent s s2 t x x' n := by
  obtain ⟨P, m, rfl, _⟩ := p
  exact ⟨h.cont, h.tx, h.xH, h.nums, h.same⟩
theorem Ent.enter {s s' : Sv} {t : Int} {x x' : TxE} {n : Nat} (h : Ent s s' t x x' n) (e : EntV) (v' : Value) : Ent s (entered s' t x' e v') t x { x' with last := s'.len + 1 } (n + 1) := by
  obtain ⟨h1, h2, h3, h4, h5⟩ := h
  refine ⟨h1, ?_, ⟨h3.1, h3.2.1, Nat.le_refl _⟩, ⟨?_, h4.2⟩, h5⟩
  · funext u
    show (if u = t then some { x' with last := s'.len + 1 } else s'.tx u) = _
    by_cases hu : u = t
    · rw [if_pos hu, if_pos hu]
    · rw [if_neg hu, if_neg hu, h2]; simp [hu]
  · show s'.len + 1 = s.len + (n + 1)
    rw [h4.1]; omega
theorem Ent.made {s s' : Sv} {t : Int} {x x' : TxE} {n : Nat} (h : Ent s s' t x x' n) {md : TabV} (hm : Made s md) : Made s' md := by
  obtain ⟨_, _, h3, h4, h5⟩ := h
  exact ⟨h5.2.2.1.trans hm.made, by rw [h5.2.2.2.1]; exact hm.have', by rw [h5.2.2.2.1]; exact hm.lack, by rw [h5.2.2.2.1, h4.2.1]; exact hm.cells, by rw [h4.2.1]; exact hm.num⟩

/-- .. and so many keys set in the pages. -/
structure SetTo (s s' : Sv) (t : Int) (x' : TxE) (n j : Nat) (c : Nat → Pairs) : Prop where
  cont : s'.cont = c
  tx : s'.tx = fun u => if u = t then some x' else s.tx u
  nums : s'.len = s.len + n ∧ s'.acts = s.acts ∧ s'.begun = s.begun ∧ s'.start = s.start ∧ s'.mc.n = s.mc.n + j
  same : s'.kb = s.kb ∧ s'.mo = s.mo ∧ s'.made = s.made ∧ s'.mt = s.mt
theorem SetTo.made {s s' : Sv} {t : Int} {x' : TxE} {n j : Nat} {c : Nat → Pairs} (h : SetTo s s' t x' n j c) {md : TabV} (hm : Made s md) : Made s' md := by
  obtain ⟨_, _, h4, h5⟩ := h
  exact ⟨h5.2.2.1.trans hm.made, by rw [h5.2.2.2]; exact hm.have', by rw [h5.2.2.2]; exact hm.lack, by rw [h5.2.2.2, h4.2.1]; exact hm.cells, by rw [h4.2.1]; exact hm.num⟩
end Go.Proofs.YtihbngfbcnojcaaGreat

namespace Go.Proofs.YtihbngfbcnojcaaGreat
open Go.RowKit

/-- What a commit leaves of a store that keeps writes beside the pages. -/
structure Ncom (s s' : Sv) (t : Int) (c : Nat → Pairs) (n : Nat) : Prop where
  cont : s'.cont = c
  tx : s'.tx = fun u => if u = t then none else s.tx u
  mt : s'.mt = fun u => if u = t then none else s.mt u
  nums : s'.acts = s.acts ∧ s'.begun = s.begun ∧ s'.kb = s.kb ∧ s'.start = s.start ∧ s'.mo.M = s.mo.M.del (.int .i64 t) ∧ s'.len ≤ s.len + n
  grew : s.len ≤ s'.len

theorem made_at {w : World} {s : Sv} {md : TabV} (h : Lies w s) (hm : Made s md) (t : Int) (ht : IsInt t) {m : TabV} (hmt : s.mt t = some m) : (Instr.lookup 231 (.map (some md.b)) (.int .i64 t) false).run Tryz.prog w = .ok (.map (some m.b)) w := by
  have := made_tab h hm t ht
  rw [hmt] at this
  exact this

set_option maxRecDepth 100000 in
set_option maxHeartbeats 2000000 in
/-- (*noSteal).Commit of a transaction that has written nothing. -/
theorem noStealCommit_none {w : World} {s : Sv} {q : Nat} {md : TabV} (h : Lies w s) (g : Good s) (hh : Held s q) (hm : Made s md) (t : Int) (ht : IsInt t) (hmt : s.mt t = none) :
    Calls Tryz.prog 275 #[.pointer (some ⟨s.kb, 0, none⟩), .int .i64 t] w fun e w' => e = .returned (.tuple #[]) ∧ ∃ s' md', Ncom s s' t s.cont 0 ∧ Made s' md' ∧ Goes w w' s s' ∧ Held s' q := by
  have c8 := made_cell h hm
  have hlk := made_tab h hm t ht
  rw [hmt] at hlk
  simp only [Option.map_none] at hlk
  have KK : Hid (Calls Tryz.prog 110 #[.map none] w fun e w' => e = .returned (.func (.func 156) #[] #[.pointer (some ⟨w.heap.size, 0, none⟩)]) ∧ w' = w.alloc (.cells #[.map none] 138)) := mapsKeys_any _ w
  have KS := @id (Hid (Calls _ _ _ (w.alloc _) _)) (sortedKeys_nil w)
  have KE : Hid (∀ W, Below w.heap.size w W → Calls Tryz.prog 284 #[.pointer (some ⟨s.kb, 0, none⟩), .int .i64 t] W fun e w' => e = .returned (.tuple #[]) ∧ ∃ s' md', Ncom s s' t s.cont 0 ∧ Made s' md' ∧ Goes w w' s s' ∧ Held s' q) := fun W hW => by
    refine (noStealEnd_step (h.below hW) g hh hm t ht).mono ?_
    rintro e w' ⟨h1, h2, h3, h4⟩
    exact ⟨h1, ended (unmade s md t) t, _, ⟨rfl, rfl, rfl, ⟨rfl, rfl, rfl, rfl, rfl, Nat.le_refl _⟩, Nat.le_refl _⟩, h4, (Goes.of_below h g hW).trans h2, h3⟩
  have HB : Hid (∀ w2, Below (w.alloc (.cells #[.map none] 138)).heap.size (w.alloc (.cells #[.map none] 138)) w2 → Below w.heap.size w w2) := fun w2 h2 => ((Below.refl _ w).alloc (Nat.le_refl _) _).trans (h2.mono (by simp))
  generalize hP : (fun w' => ∃ s' md', Ncom s s' t s.cont 0 ∧ Made s' md' ∧ Goes w w' s s' ∧ Held s' q) = P
  have KE2 : Hid (∀ W, Below w.heap.size w W → Calls Tryz.prog 284 #[.pointer (some ⟨s.kb, 0, none⟩), .int .i64 t] W fun e w' => e = .returned (.tuple #[]) ∧ P w') := by rw [← hP]; exact KE.out
  show Calls Tryz.prog 275 #[.pointer (some ⟨s.kb, 0, none⟩), .int .i64 t] w fun e w' => e = .returned (.tuple #[]) ∧ (fun w' => ∃ s' md', Ncom s s' t s.cont 0 ∧ Made s' md' ∧ Goes w w' s s' ∧ Held s' q) w'
  rw [hP]
  generalize hkb : s.kb = kb at c8 KE2
  clear h g hh hm KE hP
  go_enter Tryz.func275, Tryz.ntmps275
  go_wp2_with (first
    | (go_at_call 110; go_must (
        refine KK.out.mono ?_
        rintro e w0 ⟨rfl, rfl⟩))
    | (go_at_call 109; go_must (
        refine KS.out.mono ?_
        rintro e w1 ⟨rfl, hb1⟩
        have HB1 : Hid (Below w.heap.size w w1) := HB.out w1 hb1
        clear hb1)))
  go_loopw [21] (fun i wr => i = .int .i64 0 ∧ wr = w1) (fun _ _ => 0)
  case atStart => exact ⟨rfl, rfl⟩
  case round =>
    obtain ⟨rfl, rfl⟩ := hrel
    go_wp2
    go_loopw [58] (fun i w2 => i = .int .i64 0 ∧ w2 = wr) (fun _ _ => 0)
    case atStart => exact ⟨rfl, rfl⟩
    case round =>
      obtain ⟨rfl, rfl⟩ := hrel
      go_wp2_with (first
        | (go_at_call 284; go_must (
            refine (KE2.out _ HB1.out).mono ?_
            rintro e w3 ⟨rfl, hp⟩
            have HP : Hid (P w3) := hp
            clear hp)))
      go_end0
      exact ⟨rfl, HP.out⟩
end Go.Proofs.YtihbngfbcnojcaaGreat

namespace Go.Proofs.YtihbngfbcnojcaaGreat
open Go.RowKit

/-- What a transaction that keeps its writes beside the pages enters for a key. -/
def nEnt (s : Sv) (M : DataW Value) (k : ByteArray) : EntV := ⟨1, 0, 0, 0, k, (under (s.cont (bucket k)) k).1, (under (s.cont (bucket k)) k).2, (cellOf M k).1, (cellOf M k).2⟩

theorem cellOf_size {M : DataW Value} (h : CellsOk M) (k : ByteArray) : (cellOf M k).2.size ≤ 12 := by
  rcases h k with h1 | ⟨is, val, _, h2, h1⟩
  · unfold cellOf wroteIn; rw [h1]; simp [cellIn]
  · unfold cellOf wroteIn; rw [h1]; exact h2

theorem Ent.held {s s' : Sv} {t : Int} {x x' : TxE} {n q : Nat} (h : Ent s s' t x x' n) (hx : s.tx t = some x) (hh : Held s q) : Held s' q := fun u y hy => by
  rw [h.tx] at hy
  by_cases hu : u = t
  · simp only [hu, if_true, Option.some.injEq] at hy
    subst hy
    obtain ⟨h1, h2, h3⟩ := hh t x hx
    rw [h.xH.1, h.xH.2.1]
    exact ⟨h1, h2, h3⟩
  · simp only [hu, if_false] at hy
    exact hh u y hy
theorem SetTo.held {s s' : Sv} {t : Int} {x x' : TxE} {n j q : Nat} {c : Nat → Pairs} (h : SetTo s s' t x' n j c) (hH : x'.H = x.H ∧ x'.nH = x.nH) (hx : s.tx t = some x) (hh : Held s q) : Held s' q := fun u y hy => by
  rw [h.tx] at hy
  by_cases hu : u = t
  · simp only [hu, if_true, Option.some.injEq] at hy
    subst hy
    obtain ⟨h1, h2, h3⟩ := hh t x hx
    rw [hH.1, hH.2]
    exact ⟨h1, h2, h3⟩
  · simp only [hu, if_false] at hy
    exact hh u y hy

/-- The i-th round of the first loop. -/
def Rd1 (W1 : World) (s : Sv) (t : Int) (x : TxE) (i : Nat) (w : World) : Prop := ∃ s' x', Ent s s' t x x' i ∧ Goes W1 w s s'
/-- .. of the second. -/
def Rd2 (W1 : World) (s : Sv) (t : Int) (x : TxE) (M : DataW Value) (ks : List ByteArray) (n i : Nat) (w : World) : Prop := ∃ s' x', SetTo s s' t x' n i (contAfter s.cont M (ks.take i)) ∧ (x'.H = x.H ∧ x'.nH = x.nH) ∧ Goes W1 w s s'

/-- What the loops of a commit go by. -/
structure Com (W1 : World) (s : Sv) (q : Nat) (md m : TabV) (t : Int) (x : TxE) (ks : List ByteArray) : Prop where
  lies : Lies W1 s
  good : Good s
  held : Held s q
  cap : Cap s
  made : Made s md
  mt : s.mt t = some m
  ht : 0 ≤ t ∧ t < 256
  hx : s.tx t = some x
  last : x.last ≤ s.len
  keys : KeysOf m.M ks
  all : ∀ k, k ∈ ks → holdOf x.H k = 2
  room : s.len + ks.length + 1 ≤ 391

theorem Com.ksz {W1 : World} {s : Sv} {q : Nat} {md m : TabV} {t : Int} {x : TxE} {ks : List ByteArray} (C : Com W1 s q md m t x ks) {k : ByteArray} (hk : k ∈ ks) : k.size ≤ 8 := by
  have h1 := (C.keys.mem k).1 hk
  rcases (C.made.cells t m C.mt).1 k with h2 | ⟨_, _, h2, _⟩
  · rw [Maps.has_false_of_atKey h2] at h1; cases h1
  · exact h2

theorem Com.look {W1 W : World} {s s' : Sv} {q : Nat} {md m : TabV} {t : Int} {x : TxE} {ks : List ByteArray} (C : Com W1 s q md m t x ks) {k : ByteArray} (hk : k ∈ ks) (hmt : s'.mt = s.mt) (h : Lies W s') :
    (Instr.lookup 138 (.map (some m.b)) (.string k) false).run Tryz.prog W = .ok (.agg #[.bool (cellOf m.M k).1, .string (cellOf m.M k).2]) W :=
  cell_look (h.comp (.madeOf t) m (by rw [hmt]; exact C.mt)) (C.made.cells t m C.mt).1 k (by have := C.ksz hk; omega)

/-- pool.get within the first loop. -/
theorem Com.get {W1 W : World} {s : Sv} {q : Nat} {md m : TabV} {t : Int} {x : TxE} {ks : List ByteArray} (C : Com W1 s q md m t x ks) {k : ByteArray} (hk : k ∈ ks) {i : Nat} (h : Rd1 W1 s t x i W) :
    Calls Tryz.prog 289 #[.pointer (some ⟨s.kb, 2, none⟩), .string k] W fun e w' => e = .returned (.agg #[.bool (under (s.cont (bucket k)) k).1, .string (under (s.cont (bucket k)) k).2]) ∧ Rd1 W1 s t x i w' := by
  obtain ⟨s', x', h1, h2⟩ := h
  have K := get_step h2.lies h2.good k (C.ksz hk)
  rw [h1.same.1, h1.cont] at K
  refine K.mono ?_
  rintro e w' ⟨e1, s2, p2, g2⟩
  exact ⟨e1, s2, x', h1.paged p2, h2.trans g2⟩

/-- core.enter within the first loop. -/
theorem Com.enter {W1 W : World} {s : Sv} {q : Nat} {md m : TabV} {t : Int} {x : TxE} {ks : List ByteArray} (C : Com W1 s q md m t x ks) (e : EntV) (he : (0 ≤ e.kind ∧ e.kind < 256) ∧ (0 ≤ e.next ∧ e.next < 65536) ∧ e.key.size ≤ 8 ∧ e.old.size ≤ 12 ∧ e.new.size ≤ 12) {i : Nat} (hi : i ≤ ks.length) (h : Rd1 W1 s t x i W) :
    Calls Tryz.prog 288 #[.pointer (some ⟨s.kb, 0, none⟩), .int .i64 t, .agg e.cells] W fun r w' => r = .returned (.tuple #[]) ∧ Rd1 W1 s t x (i + 1) w' := by
  obtain ⟨s', x', h1, h2⟩ := h
  have hr := C.room
  have hl := h1.nums.1
  have hx' : s'.tx t = some x' := by rw [h1.tx]; simp
  have hlx := h1.xH.2.2
  have K := enter_step h2.lies h2.good (h1.held C.hx C.held) (by omega) t C.ht x' hx' e ⟨he.1, C.ht, ⟨by simp only; omega, by simp only; omega⟩, he.2.1, he.2.2.1, he.2.2.2.1, he.2.2.2.2⟩
  rw [h1.same.1] at K
  refine K.mono ?_
  rintro r w' ⟨e1, v', g2, _⟩
  exact ⟨e1, _, _, h1.enter e v', h2.trans g2⟩

/-- journal.force behind it. -/
theorem Com.force {W1 W : World} {s : Sv} {q : Nat} {md m : TabV} {t : Int} {x : TxE} {ks : List ByteArray} (_C : Com W1 s q md m t x ks) {i : Nat} (h : ∃ s' x' e v', Ent s s' t x x' i ∧ Goes W1 W s (entered s' t x' e v')) :
    Calls Tryz.prog 287 #[.pointer (some ⟨s.kb, 0, none⟩)] W fun r w' => r = .returned (.tuple #[]) ∧ Rd2 W1 s t x m.M ks (i + 1) 0 w' := by
  obtain ⟨s', x', e, v', h1, h2⟩ := h
  have h3 := h1.enter e v'
  have K := force_step h2.lies h2.good (by show s'.ws ++ [_] ≠ []; simp)
  rw [h3.same.1] at K
  refine K.mono ?_
  rintro r w' ⟨e1, g2⟩
  refine ⟨e1, synced (entered s' t x' e v'), { x' with last := s'.len + 1 }, ⟨?_, h3.tx, ⟨h3.nums.1, h3.nums.2.1, h3.nums.2.2.1, h3.nums.2.2.2, ?_⟩, h3.same.1, h3.same.2.1, h3.same.2.2.1, h3.same.2.2.2.1⟩, ⟨h3.xH.1, h3.xH.2.1⟩, h2.trans g2⟩
  · exact h3.cont
  · have := h3.same.2.2.2.2
    show (entered s' t x' e v').mc.n = s.mc.n + 0
    rw [this]; rfl

/-- pool.set within the second loop. -/
theorem Com.set {W1 W : World} {s : Sv} {q : Nat} {md m : TabV} {t : Int} {x : TxE} {ks : List ByteArray} (C : Com W1 s q md m t x ks) {i : Nat} (hi : i < ks.length) (h : Rd2 W1 s t x m.M ks (ks.length + 1) i W) :
    Calls Tryz.prog 80 #[.pointer (some ⟨s.kb, 2, none⟩), .string ks[i], .agg #[.bool (cellOf m.M ks[i]).1, .string (cellOf m.M ks[i]).2]] W fun r w' => r = .returned (.tuple #[]) ∧ Rd2 W1 s t x m.M ks (ks.length + 1) (i + 1) w' := by
  obtain ⟨s', x', h1, hH, h2⟩ := h
  have hk : ks[i] ∈ ks := List.getElem_mem hi
  obtain ⟨f1, f2, f3⟩ := contAfter_facts (c := s.cont) m.M (fun n hn => (C.good.rise n hn).1) (ks.take i)
  have hmc := C.good.mcn
  have hn := h1.nums
  have hfit : (withL (s'.cont (bucket ks[i])) ks[i] (cellOf m.M ks[i]).1 (cellOf m.M ks[i]).2).length ≤ 4 := by
    rw [h1.cont]
    obtain ⟨L, l1, l2⟩ := C.cap _ (bucket_lt ks[i])
    have hnd := rising_nodup (withL_rising (f1 _ (bucket_lt ks[i])) ks[i] (cellOf m.M ks[i]).1 (cellOf m.M ks[i]).2)
    rw [← List.length_map (f := (·.1))]
    refine Nat.le_trans (hnd.length_le_of_subset fun k hk' => ?_) l1
    obtain ⟨p, hp, rfl⟩ := List.mem_map.1 hk'
    have hheld : ∀ k', k' ∈ ks → bucket k' = bucket ks[i] → k' ∈ L := fun k' h3 h4 => l2 k' (.inr ⟨h4, t, x, C.hx, C.all k' h3⟩)
    rcases withL_mem (f1 _ (bucket_lt ks[i])) _ _ _ hp with h3 | ⟨_, h3⟩
    · rcases f2 _ (bucket_lt ks[i]) p h3 with h4 | ⟨h4, h5⟩
      · exact l2 _ (.inl ⟨p, h4, rfl⟩)
      · exact hheld _ (List.mem_of_mem_take h4) h5
    · rw [h3]; exact hheld _ hk rfl
  have K := set_step h2.lies h2.good ks[i] (C.ksz hk) (cellOf m.M ks[i]).1 (cellOf m.M ks[i]).2 (cellOf_size (C.made.cells t m C.mt).1 _) (by omega) hfit
  rw [h1.same.1, h1.cont] at K
  refine K.mono ?_
  rintro r w' ⟨e1, s1, p', hp, g2⟩
  obtain ⟨P, mm, rfl, hmm⟩ := hp
  refine ⟨e1, ({ s' with pgs := P, mp := mm } : Sv).put (bucket ks[i]) p' (withL (contAfter s.cont m.M (ks.take i) (bucket ks[i])) ks[i] (cellOf m.M ks[i]).1 (cellOf m.M ks[i]).2), x', ⟨?_, h1.tx, ⟨hn.1, hn.2.1, hn.2.2.1, hn.2.2.2.1, ?_⟩, h1.same⟩, hH, h2.trans g2⟩
  · rw [List.take_add_one, List.getElem?_eq_getElem hi]
    show (fun n => if n = bucket ks[i] then withL (contAfter s.cont m.M (ks.take i) (bucket ks[i])) ks[i] (cellOf m.M ks[i]).1 (cellOf m.M ks[i]).2 else s'.cont n) = contAfter s.cont m.M (ks.take i ++ [ks[i]])
    rw [contAfter_snoc, h1.cont]
    funext n
    by_cases hb : n = bucket ks[i]
    · simp only [hb, if_true]
    · simp only [hb, if_false]
  · show s'.mc.n + 1 = s.mc.n + (i + 1)
    rw [hn.2.2.2.2]; omega

/-- (*noSteal).end behind all. -/
theorem Com.fin {W1 W : World} {s : Sv} {q : Nat} {md m : TabV} {t : Int} {x : TxE} {ks : List ByteArray} (C : Com W1 s q md m t x ks) {n : Nat} (hn : n ≤ ks.length + 1) (h : Rd2 W1 s t x m.M ks n ks.length W) :
    Calls Tryz.prog 284 #[.pointer (some ⟨s.kb, 0, none⟩), .int .i64 t] W fun r w' => r = .returned (.tuple #[]) ∧ ∃ s' md', Ncom s s' t (contAfter s.cont m.M ks) (ks.length + 1) ∧ Made s' md' ∧ Goes W1 w' s s' ∧ Held s' q := by
  obtain ⟨s', x', h1, hH, h2⟩ := h
  have ht := C.ht
  have K := noStealEnd_step h2.lies h2.good (h1.held hH C.hx C.held) (h1.made C.made) t ⟨by omega, by omega⟩
  rw [h1.same.1] at K
  refine K.mono ?_
  rintro r w' ⟨e1, g2, k3, k4⟩
  refine ⟨e1, ended (unmade s' md t) t, _, ⟨?_, ?_, ?_, ⟨h1.nums.2.1, h1.nums.2.2.1, h1.same.1, h1.nums.2.2.2.1, ?_, ?_⟩, ?_⟩, k4, h2.trans g2, k3⟩
  · rw [← List.take_length (l := ks)]; exact h1.cont
  · funext u
    show (if u = t then none else s'.tx u) = _
    by_cases hu : u = t
    · rw [if_pos hu, if_pos hu]
    · rw [if_neg hu, if_neg hu, h1.tx]; simp [hu]
  · funext u
    show (if u = t then none else s'.mt u) = _
    rw [h1.same.2.2.2]
  · show s'.mo.M.del _ = _
    rw [h1.same.2.1]
  · show s'.len ≤ _
    rw [h1.nums.1]; omega
  · show s.len ≤ s'.len
    rw [h1.nums.1]; omega
end Go.Proofs.YtihbngfbcnojcaaGreat

namespace Go.Proofs.YtihbngfbcnojcaaGreat
open Go.RowKit

theorem nEnt_ok {W1 : World} {s : Sv} {q : Nat} {md m : TabV} {t : Int} {x : TxE} {ks : List ByteArray} (C : Com W1 s q md m t x ks) {k : ByteArray} (hk : k ∈ ks) : (0 ≤ (nEnt s m.M k).kind ∧ (nEnt s m.M k).kind < 256) ∧ (0 ≤ (nEnt s m.M k).next ∧ (nEnt s m.M k).next < 65536) ∧ (nEnt s m.M k).key.size ≤ 8 ∧ (nEnt s m.M k).old.size ≤ 12 ∧ (nEnt s m.M k).new.size ≤ 12 :=
  ⟨by simp [nEnt], by simp [nEnt], C.ksz hk, under_fits (C.good.rise _ (bucket_lt k)).2.2 k, cellOf_size (C.made.cells t m C.mt).1 k⟩

/-- The keys' row lies where it lay. -/
theorem Com.row {W1 W : World} {s s' : Sv} {q : Nat} {md m : TabV} {t : Int} {x : TxE} {ks : List ByteArray} (_C : Com W1 s q md m t x ks) {g cap B : Nat} (hr : W1.ownsRow B 9 1 (.slice (some ⟨g, 0, none⟩) ks.length cap) ks.length (ks.map Value.string)) (hn : ∀ tag, s.blk tag ≠ some g) (h : Goes W1 W s s') (i : Nat) (hi : i < ks.length) : W.cell? ⟨g, i, none⟩ = some (.string ks[i]) :=
  owns_cell (owns_off hr (fun k hk => by
    have : k = g := by simpa [Value.ownBlock] using hk.symm
    subst this
    exact h.off k (hr.lt k hk).2 hn)) (by simp [hi])

/-- The last entry of a commit. -/
theorem Com.close {W1 W : World} {s : Sv} {q : Nat} {md m : TabV} {t : Int} {x : TxE} {ks : List ByteArray} (C : Com W1 s q md m t x ks) (h : Rd1 W1 s t x ks.length W) :
    Calls Tryz.prog 288 #[.pointer (some ⟨s.kb, 0, none⟩), .int .i64 t, .agg #[.int .i64 3, .int .i64 0, .int .i64 0, .int .i64 0, .string ByteArray.empty, .bool false, .string ByteArray.empty, .bool false, .string ByteArray.empty]] W fun r w' => r = .returned (.tuple #[]) ∧ ∃ s' x' e v', Ent s s' t x x' ks.length ∧ Goes W1 w' s (entered s' t x' e v') := by
  obtain ⟨s', x', h1, h2⟩ := h
  have hr := C.room
  have hl := h1.nums.1
  have hx' : s'.tx t = some x' := by rw [h1.tx]; simp
  have hlx := h1.xH.2.2
  have K := enter_step h2.lies h2.good (h1.held C.hx C.held) (by omega) t C.ht x' hx' ⟨3, 0, 0, 0, ByteArray.empty, false, ByteArray.empty, false, ByteArray.empty⟩ ⟨by simp, C.ht, ⟨by simp only; omega, by simp only; omega⟩, by simp, by simp, by simp, by simp⟩
  rw [h1.same.1] at K
  refine K.mono ?_
  rintro r w' ⟨e1, v', g2, _⟩
  exact ⟨e1, s', x', _, v', h1, h2.trans g2⟩
theorem Rd1.none {W1 W : World} {s : Sv} {t : Int} {x : TxE} {ks : List ByteArray} {M : DataW Value} (h : Rd1 W1 s t x 0 W) : Rd2 W1 s t x M ks 0 0 W := by
  obtain ⟨s', x', h1, h2⟩ := h
  refine ⟨s', x', ⟨h1.cont, h1.tx, ⟨h1.nums.1, h1.nums.2.1, h1.nums.2.2.1, h1.nums.2.2.2, ?_⟩, h1.same.1, h1.same.2.1, h1.same.2.2.1, h1.same.2.2.2.1⟩, ⟨h1.xH.1, h1.xH.2.1⟩, h2⟩
  rw [h1.same.2.2.2.2]; rfl

set_option maxRecDepth 100000 in
set_option maxHeartbeats 8000000 in
/-- (*noSteal).Commit of a transaction that has written. -/
theorem noStealCommit_some {w : World} {s : Sv} {q : Nat} {md m : TabV} (h : Lies w s) (g : Good s) (hh : Held s q) (hc : Cap s) (hm : Made s md) (t : Int) (ht : 0 ≤ t ∧ t < 256) (x : TxE) (hx : s.tx t = some x) (hlast : x.last ≤ s.len) (hmt : s.mt t = some m) (hall : ∀ k, Maps.has m.M (lit k) = true → holdOf x.H k = 2) (hroom : s.len + m.n + 1 ≤ 391) :
    Calls Tryz.prog 275 #[.pointer (some ⟨s.kb, 0, none⟩), .int .i64 t] w fun e w' => e = .returned (.tuple #[]) ∧ ∃ ks s' md', KeysOf m.M ks ∧ Ncom s s' t (contAfter s.cont m.M ks) (ks.length + 1) ∧ Made s' md' ∧ Goes w w' s s' ∧ Held s' q := by
  have hti : IsInt t := ⟨by omega, by omega⟩
  have c8 := made_cell h hm
  have hlk := made_at h hm t hti hmt
  have hM : MapOf w 9 m.b m.n m.M := h.comp (.madeOf t) m hmt
  have hmn := (hm.cells t m hmt).2
  have hac := g.ac
  have hsz : Maps.size m.M ≤ m.n := World.ownsMap.size_le hM
  have KK : Hid (Calls Tryz.prog 110 #[.map (some m.b)] w fun e w' => e = .returned (.func (.func 156) #[] #[.pointer (some ⟨w.heap.size, 0, none⟩)]) ∧ w' = w.alloc (.cells #[.map (some m.b)] 138)) := mapsKeys_any _ w
  have KS := @id (Hid (Calls _ _ _ (w.alloc _) _)) (sortedKeys_of hM (by omega))
  have HC : Hid (∀ W1 ks, Below w.heap.size w W1 → KeysOf m.M ks → Com W1 s q md m t x ks) := fun W1 ks hW hk => ⟨h.below hW, g, hh, hc, hm, hmt, ht, hx, hlast, hk, fun k hk' => hall k ((hk.mem k).1 hk'), by rw [hk.len]; omega⟩
  have HP : Hid (∀ q', w.heap.size ≤ q' → ∀ tag, s.blk tag ≠ some q') := fun q' hq' tag ht' => by have := h.lt tag _ ht'; omega
  have HG : Hid (∀ W1, Below w.heap.size w W1 → Goes w W1 s s ∧ Goes W1 W1 s s) := fun W1 hW => ⟨Goes.of_below h g hW, Goes.refl (h.below hW) g⟩
  have HKB : Hid (∀ W1 W s', Goes W1 W s s' → s'.made = s.made → s'.kb = s.kb → W.cell? ⟨s.kb, 8, none⟩ = some (.map (some md.b))) := fun W1 W s' hW h1 h2 => by
    have e1 : s'.cells[8]? = some (.map (some md.b)) := by unfold Sv.cells; rw [h1, hm.made]; rfl
    rw [← h2]; exact cell_at (hW.lies.comp .kind) e1
  generalize hkb : s.kb = kb at c8
  clear h g hh hc hm hM hall
  go_enter Tryz.func275, Tryz.ntmps275
  go_wp2_with (first
    | (go_at_call 110; go_must (
        refine KK.out.mono ?_
        rintro e w0 ⟨rfl, rfl⟩))
    | (go_at_call 109; go_must (
        refine KS.out.mono ?_
        rintro e w1 ⟨v, ks, rfl, hks, hrow, hb1⟩
        obtain ⟨p, cap, rfl, hmax⟩ := owns_slice' hrow
        have HKS : Hid (KeysOf m.M ks) := hks
        have HROW : Hid (w1.ownsRow w.heap.size 9 1 (.slice p ks.length cap) ks.length (ks.map Value.string)) := hrow
        have HB1 : Hid (Below w.heap.size w w1) := hb1
        have hkl : ks.length ≤ 120 := by rw [hks.len]; omega
        have HCM : Hid (Com w1 s q md m t x ks) := HC.out w1 ks hb1 hks
        clear hks hrow hb1 hmax)))
  go_loopw [21] (fun i wr => ∃ k : Nat, k ≤ ks.length ∧ i = .int .i64 k ∧ Rd1 w1 s t x k wr) (fun i _ => ks.length - (intOf i).toNat)
  case atStart => exact ⟨0, by omega, rfl, s, x, Ent.refl hx hlast, (HG.out w1 HB1.out).2⟩
  case round =>
    obtain ⟨k, hk, rfl, hrd⟩ := hrel
    have HRD : Hid (Rd1 w1 s t x k wr) := hrd
    clear hrd
    by_cases hlt : k < ks.length
    · have hlt' : (k : Int) < (ks.length : Int) := by omega
      obtain ⟨gb, cap', he⟩ := owns_some HROW.out (by omega)
      simp only [Value.slice.injEq] at he
      obtain ⟨rfl, -, rfl⟩ := he
      have hgb := (HROW.out.lt gb rfl).1
      have c0 : wr.cell? ⟨gb, k, none⟩ = some (.string ks[k]) := by
        obtain ⟨s', x', _, h2⟩ := HRD.out
        exact HCM.out.row HROW.out (HP.out gb hgb) h2 k hlt
      have hmem : ks[k] ∈ ks := List.getElem_mem hlt
      have KG : Hid (∀ W, Rd1 w1 s t x k W → Calls Tryz.prog 289 #[.pointer (some ⟨kb, 2, none⟩), .string ks[k]] W fun e w' => e = .returned (.agg #[.bool (under (s.cont (bucket ks[k])) ks[k]).1, .string (under (s.cont (bucket ks[k])) ks[k]).2]) ∧ Rd1 w1 s t x k w') := fun W hW => by rw [← hkb]; exact HCM.out.get hmem hW
      have KE : Hid (∀ W, Rd1 w1 s t x k W → Calls Tryz.prog 288 #[.pointer (some ⟨kb, 0, none⟩), .int .i64 t, .agg (nEnt s m.M ks[k]).cells] W fun e w' => e = .returned (.tuple #[]) ∧ Rd1 w1 s t x (k + 1) w') := fun W hW => by rw [← hkb]; exact HCM.out.enter _ (nEnt_ok HCM.out hmem) (by omega) hW
      have HLK : Hid (∀ W i, Rd1 w1 s t x i W → (Instr.lookup 138 (.map (some m.b)) (.string ks[k]) false).run Tryz.prog W = .ok (.agg #[.bool (cellOf m.M ks[k]).1, .string (cellOf m.M ks[k]).2]) W) := fun W i ⟨s', x', h1, h2⟩ => HCM.out.look hmem h1.same.2.2.2.1 h2.lies
      have hl0 := HLK.out wr k HRD.out
      have HDR : Hid (Rd1 w1 s t x k wr.drew) := by obtain ⟨s', x', h1, h2⟩ := HRD.out; exact ⟨s', x', h1, h2.drew⟩
      have hl1 := HLK.out wr.drew k HDR.out
      simp only [nEnt, EntV.cells] at KE
      generalize under (s.cont (bucket ks[k])) ks[k] = un at KG KE
      generalize cellOf m.M ks[k] = cn at KE HLK hl0 hl1
      generalize ks[k] = kk at c0 KG KE HLK hl0 hl1
      obtain ⟨ui, us⟩ := un
      obtain ⟨ci, cs⟩ := cn
      simp only at KG KE HLK hl0 hl1
      go_wp2
      go_region_held3 (fun w' => (Instr.lookup 138 (.map (some m.b)) (.string kk) false).run Tryz.prog w' = .ok (.agg #[.bool ci, .string cs]) w')
        (go_keep)
        (first
          | (go_at_call 289; go_must (
              refine (KG.out _ HDR.out).mono ?_
              rintro e w2 ⟨rfl, hr2⟩
              have HR2 : Hid (Rd1 w1 s t x k w2) := hr2
              have hl2 := HLK.out w2 k hr2
              clear hr2))
          | (go_at_call 288; go_must (
              refine (KE.out _ HR2.out).mono ?_
              rintro e w3 ⟨rfl, hr3⟩
              have HR3 : Hid (Rd1 w1 s t x (k + 1) w3) := hr3
              have hl3 := HLK.out w3 (k + 1) hr3
              clear hr3)))
      all_goals
        go_wp2
        exact ⟨⟨k + 1, by omega, by simp, HR3.out⟩, by simp [intOf]; omega⟩
    · obtain rfl : k = ks.length := by omega
      have KC : Hid (Calls Tryz.prog 288 #[.pointer (some ⟨kb, 0, none⟩), .int .i64 t, .agg #[.int .i64 3, .int .i64 0, .int .i64 0, .int .i64 0, .string ByteArray.empty, .bool false, .string ByteArray.empty, .bool false, .string ByteArray.empty]] wr fun r w' => r = .returned (.tuple #[]) ∧ ∃ s' x' e v', Ent s s' t x x' ks.length ∧ Goes w1 w' s (entered s' t x' e v')) := by rw [← hkb]; exact HCM.out.close HRD.out
      have KF : Hid (∀ W, (∃ s' x' e v', Ent s s' t x x' ks.length ∧ Goes w1 W s (entered s' t x' e v')) → Calls Tryz.prog 287 #[.pointer (some ⟨kb, 0, none⟩)] W fun r w' => r = .returned (.tuple #[]) ∧ Rd2 w1 s t x m.M ks (ks.length + 1) 0 w') := fun W hW => by rw [← hkb]; exact HCM.out.force hW
      have KZ : Hid (∀ W n, n ≤ ks.length + 1 → Rd2 w1 s t x m.M ks n ks.length W → Calls Tryz.prog 284 #[.pointer (some ⟨kb, 0, none⟩), .int .i64 t] W fun r w' => r = .returned (.tuple #[]) ∧ ∃ s' md', Ncom s s' t (contAfter s.cont m.M ks) (ks.length + 1) ∧ Made s' md' ∧ Goes w1 w' s s' ∧ Held s' q) := fun W n hn hW => by rw [← hkb]; exact HCM.out.fin hn hW
      have HFIN : Hid (∀ w', (∃ s' md', Ncom s s' t (contAfter s.cont m.M ks) (ks.length + 1) ∧ Made s' md' ∧ Goes w1 w' s s' ∧ Held s' q) → ∃ ks s' md', KeysOf m.M ks ∧ Ncom s s' t (contAfter s.cont m.M ks) (ks.length + 1) ∧ Made s' md' ∧ Goes w w' s s' ∧ Held s' q) := fun w' ⟨s', md', h1, h2, h3, h4⟩ => ⟨ks, s', md', HKS.out, h1, h2, (HG.out w1 HB1.out).1.trans h3, h4⟩
      by_cases h0 : ks.length = 0
      · have HR0 : Hid (Rd2 w1 s t x m.M ks 0 ks.length wr) := by
          have := HRD.out
          rw [h0] at this ⊢
          exact this.none
        have h0' : (ks.length : Int) = 0 := by omega
        have hgt : ¬ (0 : Int) < (ks.length : Int) := by omega
        clear KC KF
        go_wp2
        go_loopw [58] (fun i w2 => i = .int .i64 0 ∧ w2 = wr) (fun _ _ => 0)
        case atStart => exact ⟨rfl, rfl⟩
        case round =>
          obtain ⟨rfl, rfl⟩ := hrel
          go_wp2_with (first
            | (go_at_call 284; go_must (
                refine (KZ.out _ 0 (by omega) HR0.out).mono ?_
                rintro e w3 ⟨rfl, hp⟩
                have HX := @id (Hid (∃ ks s' md', _)) (HFIN.out w3 hp)
                clear hp)))
          go_end0
          exact ⟨rfl, HX.out⟩
      · have hgt : (0 : Int) < (ks.length : Int) := by omega
        go_wp2_with (first
          | (go_at_call 288; go_must (
              refine KC.out.mono ?_
              rintro e w2 ⟨rfl, hr2⟩
              have HR2 := @id (Hid (∃ s' x' e v', _)) hr2
              clear hr2))
          | (go_at_call 287; go_must (
              refine (KF.out w2 HR2.out).mono ?_
              rintro e w3 ⟨rfl, hr3⟩
              have HR3 := @id (Hid (Rd2 _ _ _ _ _ _ _ _ _)) hr3
              clear hr3)))
        clear KC KF
        go_loopw [58] (fun i wz => ∃ k : Nat, k ≤ ks.length ∧ i = .int .i64 k ∧ Rd2 w1 s t x m.M ks (ks.length + 1) k wz) (fun i _ => ks.length - (intOf i).toNat)
        case atStart => exact ⟨0, by omega, rfl, HR3.out⟩
        case round =>
          obtain ⟨k, hk, rfl, hrd⟩ := hrel
          have HRZ : Hid (Rd2 w1 s t x m.M ks (ks.length + 1) k wr) := hrd
          clear hrd
          by_cases hlt : k < ks.length
          · have hlt' : (k : Int) < (ks.length : Int) := by omega
            obtain ⟨gb, cap', he⟩ := owns_some HROW.out (by omega)
            simp only [Value.slice.injEq] at he
            obtain ⟨rfl, -, rfl⟩ := he
            have hgb := (HROW.out.lt gb rfl).1
            have c0 : wr.cell? ⟨gb, k, none⟩ = some (.string ks[k]) := by
              obtain ⟨s', x', _, _, h2⟩ := HRZ.out
              exact HCM.out.row HROW.out (HP.out gb hgb) h2 k hlt
            have hmem : ks[k] ∈ ks := List.getElem_mem hlt
            have HDR : Hid (Rd2 w1 s t x m.M ks (ks.length + 1) k wr.drew) := by obtain ⟨s', x', h1, h2, h3⟩ := HRZ.out; exact ⟨s', x', h1, h2, h3.drew⟩
            have KS2 : Hid (Calls Tryz.prog 80 #[.pointer (some ⟨kb, 2, none⟩), .string ks[k], .agg #[.bool (cellOf m.M ks[k]).1, .string (cellOf m.M ks[k]).2]] wr.drew fun e w' => e = .returned (.tuple #[]) ∧ Rd2 w1 s t x m.M ks (ks.length + 1) (k + 1) w') := by rw [← hkb]; exact HCM.out.set hlt HDR.out
            have HLK : Hid (∀ W i, Rd2 w1 s t x m.M ks (ks.length + 1) i W → (Instr.lookup 138 (.map (some m.b)) (.string ks[k]) false).run Tryz.prog W = .ok (.agg #[.bool (cellOf m.M ks[k]).1, .string (cellOf m.M ks[k]).2]) W) := fun W i ⟨s', x', h1, _, h2⟩ => HCM.out.look hmem h1.same.2.2.2 h2.lies
            have hl0 := HLK.out wr k HRZ.out
            have hl1 := HLK.out wr.drew k HDR.out
            generalize cellOf m.M ks[k] = cn at KS2 HLK hl0 hl1
            generalize ks[k] = kk at c0 KS2 HLK hl0 hl1
            obtain ⟨ci, cs⟩ := cn
            simp only at KS2 HLK hl0 hl1
            go_wp2
            go_region_held3 (fun w' => (Instr.lookup 138 (.map (some m.b)) (.string kk) false).run Tryz.prog w' = .ok (.agg #[.bool ci, .string cs]) w')
              (go_keep)
              (first
                | (go_at_call 80; go_must (
                    refine KS2.out.mono ?_
                    rintro e w5 ⟨rfl, hr5⟩
                    have HR5 := @id (Hid (Rd2 _ _ _ _ _ _ _ _ _)) hr5
                    have hl5 := HLK.out w5 (k + 1) hr5
                    clear hr5)))
            all_goals
              go_wp2
              exact ⟨⟨k + 1, by omega, by simp, HR5.out⟩, by simp [intOf]; omega⟩
          · obtain rfl : k = ks.length := by omega
            go_wp2_with (first
              | (go_at_call 284; go_must (
                  refine (KZ.out _ _ (Nat.le_refl _) HRZ.out).mono ?_
                  rintro e w6 ⟨rfl, hp⟩
                  have HX := @id (Hid (∃ ks s' md', _)) (HFIN.out w6 hp)
                  clear hp)))
            go_end0
            exact ⟨rfl, HX.out⟩
end Go.Proofs.YtihbngfbcnojcaaGreat

namespace Go.Proofs.YtihbngfbcnojcaaGreat
open Go.RowKit

def isZ : Value → Bool
  | .int .u8 0 => true
  | _ => false
theorem isZ_eq {v : Value} (h : isZ v = true) : v = .int .u8 0 := by
  unfold isZ at h
  split at h
  · rfl
  · cases h
set_option maxRecDepth 1000000 in
theorem zeroDisk_all : (Tryz.zeroCells103.toList.take 27776).all isZ = true := by kernel_rfl
theorem zeroDisk_at (i : Nat) (h : i < 27776) : Tryz.zeroCells103[i]? = some (.int .u8 0) := by
  have hz := zeroDisk_size
  have h1 : i < Tryz.zeroCells103.size := by omega
  have h2 := List.all_eq_true.1 zeroDisk_all
  have h3 : (Tryz.zeroCells103.toList.take 27776)[i]? = Tryz.zeroCells103[i]? := by rw [List.getElem?_take, if_pos h, Array.getElem?_toList]
  have h4 : Tryz.zeroCells103[i]? = some Tryz.zeroCells103[i] := Array.getElem?_eq_getElem h1
  rw [h4] at h3 ⊢
  rw [isZ_eq (h2 _ (List.mem_of_getElem? h3))]

/-- A new store's disk: a master record, and noughts. -/
structure NewDisk (D : Array Value) : Prop where
  size : D.size = 27779
  dv : D[27776]? = some (.slice none 0 0)
  fuse : D[27777]? = some (.int .i64 0)
  byte : ∀ i u, i < 27776 → D[i]? = some u → IsByte u
  zero : ∀ i, 128 ≤ i → i < 27776 → D[i]? = some (.int .u8 0)

theorem master_len (mode : Int) : (sealed 1 1 (masterBody 1 mode)).length = 64 := sealed_length _ _ _ (by simp [masterBody, be_length])
theorem newDisk_of (mode : Int) (Z : Array Value) (hz : Z.size = 27779) (hf : Z[27777]? = some (.int .i64 0)) (ha : ∀ i, i < 27776 → Z[i]? = some (.int .u8 0)) : NewDisk ((fillC Z 64 (sealed 1 1 (masterBody 1 mode))).setIfInBounds 27776 (.slice none 0 0)) where
  size := by rw [Array.size_setIfInBounds, fillC_size]; exact hz
  dv := Array.getElem?_setIfInBounds_self_of_lt (by rw [fillC_size, hz]; omega)
  fuse := by
    rw [Array.getElem?_setIfInBounds_ne (by omega), fillC_at, if_neg (by rw [master_len]; omega)]
    exact hf
  byte := fun i u h hu => by
    rw [Array.getElem?_setIfInBounds_ne (by omega), fillC_at] at hu
    split at hu
    · exact sealed_byte _ _ _ (fun u hu => by rcases List.mem_append.1 hu with h | h <;> exact be_byte _ _ u h) u (List.mem_of_getElem? hu)
    · rw [ha i h] at hu
      simp only [Option.some.injEq] at hu
      subst hu
      exact ⟨0, rfl, by omega⟩
  zero := fun i h h' => by
    rw [Array.getElem?_setIfInBounds_ne (by omega), fillC_at, if_neg (by rw [master_len]; omega)]
    exact ha i h'
theorem NewDisk.read {D : Array Value} (hD : NewDisk D) (a : Nat) (h : 2 ≤ a) (h' : a < 434) : readW D [] a = List.replicate 64 (.int .u8 0) := by
  unfold readW
  simp only [List.reverse_nil, List.find?_nil]
  apply List.ext_getElem?
  intro i
  rw [Array.getElem?_toList, Array.getElem?_extract, hD.size]
  by_cases hi : i < 64
  · rw [if_pos (by omega), hD.zero _ (by omega) (by omega), List.getElem?_replicate, if_pos hi]
  · rw [if_neg (by omega), List.getElem?_replicate, if_neg hi]

def copy0 : CopyV := ⟨0, 0, ByteArray.empty, ByteArray.empty, ByteArray.empty, ByteArray.empty, ByteArray.empty, ByteArray.empty, ByteArray.empty, ByteArray.empty⟩
theorem zeroHalf : sealed 0 0 (halfBody ByteArray.empty ByteArray.empty ByteArray.empty ByteArray.empty) = List.replicate 64 (.int .u8 0) := by kernel_rfl
theorem NewDisk.page {D : Array Value} (hD : NewDisk D) (n : Nat) (hn : n < 8) : PageOn D [] n copy0 copy0 := by
  have hf : copy0.Fits := ⟨by simp [copy0], by simp [copy0], by simp [copy0], by simp [copy0], by simp [copy0], by simp [copy0], by simp [copy0], by simp [copy0], by simp [copy0]⟩
  have hr : ∀ a, 2 ≤ a → a < 434 → readW D [] a = sealed 0 0 (halfBody ByteArray.empty ByteArray.empty ByteArray.empty ByteArray.empty) := fun a h1 h2 => by rw [hD.read a h1 h2, zeroHalf]
  exact ⟨⟨hr _ (by omega) (by omega), hr _ (by omega) (by omega)⟩, ⟨hr _ (by omega) (by omega), hr _ (by omega) (by omega)⟩, hf, hf⟩

/-- A new store. -/
def newSv (D : Array Value) (ty : TypeId) (kb vb db mp mc mo : Nat) (made : Option TabV) : Sv :=
  { kb := kb, vb := vb, db := db, ty := ty, start := 1, count := 1, turn := 1, len := 0, begun := 0, acts := 0, D := D, ws := [], v := .slice none 0 0, mp := ⟨mp, 0, .map []⟩, mc := ⟨mc, 0, .map []⟩, mo := ⟨mo, 0, .map []⟩, made := made, pgs := fun _ => none, cont := fun _ => [], tx := fun _ => none, mt := fun _ => none }

theorem newSv_good {D : Array Value} (hD : NewDisk D) (ty : TypeId) (kb vb db mp mc mo : Nat) (made : Option TabV) : Good (newSv D ty kb vb db mp mc mo made) :=
  { dsz := hD.size, dv := hD.dv, fuse := hD.fuse
    ok := fun p hp => (List.not_mem_nil hp).elim
    wn := Nat.zero_le _
    ln := Nat.zero_le _
    db := hD.byte
    wb := fun p hp => (List.not_mem_nil hp).elim
    have' := fun n p _ h => by cases h
    lack := fun n _ _ zd => Maps.atKey_of_not_has (by simp [newSv, Maps.has_eq]) zd
    room := by simp [newSv, away]
    load := fun n hn _ => ⟨copy0, copy0, hD.page n hn, by kernel_rfl⟩
    rise := fun n _ => ⟨fun i j hi => (Nat.not_lt_zero i hi).elim, Nat.zero_le _, fun p hp => (List.not_mem_nil hp).elim⟩
    st := ⟨by simp [newSv], by simp [newSv]⟩
    ct := ⟨by simp [newSv], by simp [newSv]⟩
    ac := Nat.zero_le _
    mon := Nat.le_refl _
    mcn := Nat.le_refl _
    isOpen := fun t x h => by cases h
    notOpen := fun t _ zd => Maps.atKey_of_not_has (by simp [newSv, Maps.has_eq]) zd }
end Go.Proofs.YtihbngfbcnojcaaGreat

namespace Go.Proofs.YtihbngfbcnojcaaGreat
open Go.RowKit

set_option maxHeartbeats 400000 in
theorem newCore_all (p : Option Addr) (w : World) :
    Calls Tryz.prog 147 #[.pointer p] w fun e w' => e = .returned (.agg #[.pointer p, .int .i64 0, .pointer p, .map (some (w.heap.size + 1 + 1)),
        .map (some (w.heap.size + 1 + 1 + 1)), .map (some (w.heap.size + 1 + 1 + 1 + 1)), .int .i64 0, .int .i64 0]) ∧
      Below w.heap.size w w' ∧ w'.heap.size = w.heap.size + 5 ∧ w'.heap[w.heap.size + 1 + 1]? = some (.map #[] 0) ∧ w'.heap[w.heap.size + 1 + 1 + 1]? = some (.map #[] 0) ∧ w'.heap[w.heap.size + 1 + 1 + 1 + 1]? = some (.map #[] 0) := by
  have hmm := @run_makeMap Tryz.prog
  go_enter Tryz.func147, Tryz.ntmps147
  go_wp2_with (first | (go_at_call 77; refine (newPool_any _ _).mono ?_; rintro e w' ⟨rfl, rfl⟩))
  refine bodyPost_ret (v := .agg #[.pointer p, .int .i64 0, .pointer p, .map (some (w.heap.size + 1 + 1)),
        .map (some (w.heap.size + 1 + 1 + 1)), .map (some (w.heap.size + 1 + 1 + 1 + 1)), .int .i64 0, .int .i64 0]) (by simp [results, Tryz.results147, go_sem]) rfl ⟨rfl, ?_, ?_, ?_, ?_, ?_⟩
  · exact (((((Below.refl _ _).alloc (Nat.le_refl _) _).alloc (by simp) _).alloc (by simp; omega) _).alloc (by simp; omega) _).alloc (by simp; omega) _
  · simp
  · rw [Below.heap_alloc _ _ _ (by simp), Below.heap_alloc _ _ _ (by simp)]
    show (Array.push _ _)[_]? = _
    rw [Array.getElem?_push, if_pos (by simp)]
  · rw [Below.heap_alloc _ _ _ (by simp)]
    show (Array.push _ _)[_]? = _
    rw [Array.getElem?_push, if_pos (by simp)]
  · show (Array.push _ _)[_]? = _
    rw [Array.getElem?_push, if_pos (by simp)]

/-- A new kind's blocks, from N on. -/
structure KindNew (w' : World) (N : Nat) (vb : Nat) (k : Bool) (kb : Nat) : Prop where
  mp : w'.heap[N + 2]? = some (.map #[] 0)
  mc : w'.heap[N + 3]? = some (.map #[] 0)
  mo : w'.heap[N + 4]? = some (.map #[] 0)
  md : k = false → w'.heap[N + 5]? = some (.map #[] 0)
  place : kb = if k then N + 5 else N + 6
  kind : w'.heap[kb]? = some (.cells (#[.pointer (some ⟨vb, 0, none⟩), .int .i64 0, .pointer (some ⟨vb, 0, none⟩), .map (some (N + 2)), .map (some (N + 3)), .map (some (N + 4)), .int .i64 0, .int .i64 0] ++ (if k then #[] else #[.map (some (N + 5))])) (if k then 236 else 233) (0, 0))

set_option maxHeartbeats 400000 in
theorem kindOf_s (vb : Nat) (w : World) :
    Calls Tryz.prog 102 #[.int .i64 0, .pointer (some ⟨vb, 0, none⟩)] w fun e w' => e = .returned (.iface 234 (.pointer (some ⟨w.heap.size + 5, 0, none⟩))) ∧ Below w.heap.size w w' ∧ KindNew w' w.heap.size vb true (w.heap.size + 5) := by
  have hmm := @run_makeMap Tryz.prog
  go_enter Tryz.func102, Tryz.ntmps102
  go_wp2_with (first | (go_at_call 147; refine (newCore_all _ _).mono ?_; rintro e w' ⟨rfl, hb, hs, h1, h2, h3⟩))
  go_ret
  refine ⟨rfl, hb.alloc (by omega) _, ⟨?_, ?_, ?_, (fun h => by cases h), rfl, ?_⟩⟩
  · rw [Below.heap_alloc _ _ _ (by omega)]; exact h1
  · rw [Below.heap_alloc _ _ _ (by omega)]; exact h2
  · rw [Below.heap_alloc _ _ _ (by omega)]; exact h3
  · show (Array.push _ _)[_]? = _
    rw [Array.getElem?_push, if_pos (by omega)]
    rfl

set_option maxHeartbeats 400000 in
theorem kindOf_n (vb : Nat) (w : World) :
    Calls Tryz.prog 102 #[.int .i64 1, .pointer (some ⟨vb, 0, none⟩)] w fun e w' => e = .returned (.iface 224 (.pointer (some ⟨w.heap.size + 6, 0, none⟩))) ∧ Below w.heap.size w w' ∧ KindNew w' w.heap.size vb false (w.heap.size + 6) := by
  have hmm := @run_makeMap Tryz.prog
  go_enter Tryz.func102, Tryz.ntmps102
  go_wp2_with (first | (go_at_call 147; refine (newCore_all _ _).mono ?_; rintro e w' ⟨rfl, hb, hs, h1, h2, h3⟩))
  go_ret
  refine ⟨rfl, (hb.alloc (by omega) _).alloc (by simp; omega) _, ⟨?_, ?_, ?_, fun _ => ?_, rfl, ?_⟩⟩
  · rw [Below.heap_alloc _ _ _ (by simp; omega), Below.heap_alloc _ _ _ (by omega)]; exact h1
  · rw [Below.heap_alloc _ _ _ (by simp; omega), Below.heap_alloc _ _ _ (by omega)]; exact h2
  · rw [Below.heap_alloc _ _ _ (by simp; omega), Below.heap_alloc _ _ _ (by omega)]; exact h3
  · rw [Below.heap_alloc _ _ _ (by simp; omega)]
    show (Array.push _ _)[_]? = _
    rw [Array.getElem?_push, if_pos (by omega)]
  · show (Array.push _ _)[_]? = _
    rw [Array.getElem?_push, if_pos (by simp; omega)]
    rfl

/-- A new store lies in memory. -/
theorem new_lies {w : World} {D : Array Value} {N vb db kb : Nat} (k : Bool) (hk : KindNew w N vb k kb) (hv : w.heap[vb]? = some (.cells (volCells db 1 1 1) 126 (0, 0))) (hd : w.heap[db]? = some (.cells D 103 (0, 0))) (h1 : db < vb) (h2 : vb < N) :
    Lies w (newSv D (if k then 236 else 233) kb vb db (N + 2) (N + 3) (N + 4) (if k then none else some ⟨N + 5, 0, .map []⟩)) := by
  have hp := hk.place
  refine ⟨fun tag => ?_, fun a b q ha hb => ?_, fun tag q hq => ?_⟩
  · cases tag using Tag.elim with
    | kind =>
      refine hk.kind.trans ?_
      cases k <;> rfl
    | vol => exact hv
    | disk => exact hd
    | uns => exact World.ownsRow_nil _ _ _ _
    | mp => exact mapOf_empty hk.mp
    | mc => exact mapOf_empty hk.mc
    | mo => exact mapOf_empty hk.mo
    | made =>
      intro m hm
      cases k with
      | true => cases hm
      | false =>
        simp [newSv] at hm
        subst hm
        exact mapOf_empty (hk.md rfl)
    | page n => intro p hp'; cases hp'
    | row n => intro p hp'; cases hp'
    | tx t => intro p hp'; cases hp'
    | held t => intro p hp'; cases hp'
    | madeOf t => intro p hp'; cases hp'
  · cases k
    · simp only [Bool.false_eq_true, if_false] at hp
      subst hp
      cases a using Tag.elim <;> simp [newSv, Value.ownBlock] at ha <;> cases b using Tag.elim <;> simp [newSv, Value.ownBlock] at hb <;> first | rfl | omega
    · simp only [if_true] at hp
      subst hp
      cases a using Tag.elim <;> simp [newSv, Value.ownBlock] at ha <;> cases b using Tag.elim <;> simp [newSv, Value.ownBlock] at hb <;> first | rfl | omega
  · have l1 := lt_of_block' hk.kind
    have l2 := lt_of_block' hk.mo
    have l3 := lt_of_block' hk.mp
    have l4 := lt_of_block' hk.mc
    have l5 := lt_of_block' hv
    have l6 := lt_of_block' hd
    cases k
    · have l7 := lt_of_block' (hk.md rfl)
      cases tag using Tag.elim <;> simp [newSv, Value.ownBlock] at hq <;> omega
    · cases tag using Tag.elim <;> simp [newSv, Value.ownBlock] at hq <;> omega

def kTy : Bool → TypeId
  | true => 236
  | false => 233
/-- What way.New leaves. -/
structure WayNew (w w' : World) (db : Nat) (k : Bool) (kb : Nat) : Prop where
  ex : ∃ D vb mp mc mo made, NewDisk D ∧ Lies w' (newSv D (if k then 236 else 233) kb vb db mp mc mo made) ∧ (if k then made = none else ∃ m, made = some ⟨m, 0, .map []⟩) ∧ ∀ tag q, (newSv D (if k then 236 else 233) kb vb db mp mc mo made).blk tag = some q → q = db ∨ w.heap.size ≤ q
  off : ∀ q, q < w.heap.size → q ≠ db → w'.heap[q]? = w.heap[q]?
  below : Below 0 w w'

theorem wayNew_fin {w w1 w2 : World} {D : Array Value} {db kb : Nat} (k : Bool) (mode : Int) (hz : D.size = 27779) (hf : D[27777]? = some (.int .i64 0)) (ha : ∀ i, i < 27776 → D[i]? = some (.int .u8 0)) (hdb : db < w.heap.size)
    (hv1 : w1.heap[w.heap.size]? = some (.cells (volCells db 1 (0 + 1) (1 - 0)) 126 (0, 0))) (hd1 : w1.heap[db]? = some (.cells ((fillC D ((1 - 0 : Int).toNat * 64) (sealed 1 (0 + 1) (masterBody 1 mode))).setIfInBounds 27776 (.slice none 0 0)) 103 (0, 0)))
    (ho : ∀ q, q < (w.alloc (.cells (volCells db 1 0 0) 126)).heap.size → q ≠ w.heap.size → q ≠ db → w1.heap[q]? = (w.alloc (.cells (volCells db 1 0 0) 126)).heap[q]?) (hb1 : Below 0 (w.alloc (.cells (volCells db 1 0 0) 126)) w1)
    (hb2 : Below w1.heap.size w1 w2) (hk : KindNew w2 w1.heap.size w.heap.size k kb) : WayNew w w2 db k kb := by
  have hs1 : w.heap.size < w1.heap.size := lt_of_block' hv1
  have hp := hk.place
  refine ⟨⟨_, w.heap.size, _, _, _, _, newDisk_of mode D hz hf ha, new_lies k hk ((hb2.block _ hs1).trans hv1) ((hb2.block _ (by omega)).trans hd1) hdb hs1, ?_, ?_⟩, fun q h1 h2 => ?_, ((Below.refl _ w).alloc (Nat.zero_le _) _).trans (hb1.trans (hb2.mono (Nat.zero_le _)))⟩
  · cases k
    · exact ⟨_, rfl⟩
    · rfl
  · intro tag q hq
    cases k
    · simp only [Bool.false_eq_true, if_false] at hp
      cases tag using Tag.elim <;> simp [newSv, Value.ownBlock] at hq <;> omega
    · simp only [if_true] at hp
      cases tag using Tag.elim <;> simp [newSv, Value.ownBlock] at hq <;> omega
  · rw [hb2.block q (by omega), ho q (by simp; omega) (by omega) h2]
    exact Below.heap_alloc _ _ _ h1
end Go.Proofs.YtihbngfbcnojcaaGreat

namespace Go.Proofs.YtihbngfbcnojcaaGreat
open Go.RowKit

/-- A store that was just made. -/
structure NewStore (w w' : World) (a : Nat) (k : Bool) (s : Sv) : Prop where
  live : Live w' a (kindT k) s 0
  plain : ∃ D ty kb vb db mp mc mo made, NewDisk D ∧ s = newSv D ty kb vb db mp mc mo made ∧ (if k then made = none else ∃ m, made = some ⟨m, 0, .map []⟩)
  new : w.heap.size ≤ a ∧ ∀ tag q, s.blk tag = some q → w.heap.size ≤ q

theorem newSv_held (D : Array Value) (ty : TypeId) (kb vb db mp mc mo : Nat) (made : Option TabV) : Held (newSv D ty kb vb db mp mc mo made) 0 ∧ Cap (newSv D ty kb vb db mp mc mo made) := by
  refine ⟨(fun t x h => by cases h), fun n _ => ⟨[], Nat.zero_le _, fun k hk => ?_⟩⟩
  rcases hk with ⟨p, hp, _⟩ | ⟨_, t, x, hx, _⟩
  · cases hp
  · cases hx

theorem newStore_fin {w w1 : World} {o o' : Obj} {kb : Nat} {x0 x1 : Value} (k : Bool) (h : WayNew (w.alloc o) w1 w.heap.size k kb) (ho : o' = .cells #[x0, x1, .iface (kindT k) (.pointer (some ⟨kb, 0, none⟩))] 90) :
    ∃ s, Below w.heap.size w (w1.alloc o') ∧ NewStore w (w1.alloc o') w1.heap.size k s := by
  obtain ⟨⟨D, vb, mp, mc, mo, made, h1, h2, h3, h4⟩, h5, h6⟩ := h
  have hs := h6.size
  simp at hs
  have hb : Below w.heap.size w w1 := ⟨h6.os, h6.tape, h6.output, by omega, fun q hq => (h5 q (by simp; omega) (by omega)).trans (Below.heap_alloc _ _ _ hq)⟩
  have hb1 : Below w1.heap.size w1 (w1.alloc o') := (Below.refl _ w1).alloc (Nat.le_refl _) _
  refine ⟨_, hb.trans (hb1.mono (by omega)), ⟨h2.below hb1, newSv_good h1 _ _ _ _ _ _ _ _, (newSv_held D _ _ _ _ _ _ _ _).1, (newSv_held D _ _ _ _ _ _ _ _).2, by simp, fun tag ht => ?_, ?_⟩, ⟨D, _, _, _, _, _, _, _, _, h1, rfl, h3⟩, by omega, fun tag q hq => ?_⟩
  · have := h2.lt tag _ ht; omega
  · rw [ho]; exact cell_at (j := 2) (heap_alloc_new w1 _) rfl
  · rcases h4 tag q hq with e | e
    · omega
    · simp at e; omega

set_option maxHeartbeats 1000000 in
theorem wayNewFull_steal (db : Nat) (D : Array Value) (w : World) (hD : w.heap[db]? = some (.cells D 103 (0, 0))) (hDz : D.size = 27779) (hDv : D[27776]? = some (.slice none 0 0)) (hDf : D[27777]? = some (.int .i64 0)) (ha : ∀ i, i < 27776 → D[i]? = some (.int .u8 0)) :
    Calls Tryz.prog 67 #[.int .i64 0, .pointer (some ⟨db, 0, none⟩)] w fun e w' => ∃ kb, e = .returned (.iface 234 (.pointer (some ⟨kb, 0, none⟩))) ∧ WayNew w w' db true kb := by
  have hdw : db < w.heap.size := lt_of_block' hD
  have KS : Hid (Calls Tryz.prog 82 #[.int .i64 0, .pointer (some ⟨w.heap.size, 0, none⟩)] (w.alloc (.cells (volCells db 1 0 0) 126)) fun e w' => ∃ kb, e = .returned (.iface 234 (.pointer (some ⟨kb, 0, none⟩))) ∧ WayNew w w' db true kb) := by
    have hv : (w.alloc (.cells (volCells db 1 0 0) 126)).heap[w.heap.size]? = some (.cells (volCells db 1 0 0) 126 (0, 0)) := heap_alloc_new w _
    have hd : (w.alloc (.cells (volCells db 1 0 0) 126)).heap[db]? = some (.cells D 103 (0, 0)) := (Below.heap_alloc _ _ _ hdw).trans hD
    have c1 : (w.alloc (.cells (volCells db 1 0 0) 126)).cell? ⟨w.heap.size, 1, none⟩ = some (.int .u32 1) := cell_at hv rfl
    have KM := @id (Hid (Calls _ _ _ _ _)) (mark_any w.heap.size db 1 0 0 1 0 D (w.alloc (.cells (volCells db 1 0 0) 126)) (by omega) (by omega) (by omega) (by omega) (by omega) (by omega) (by omega) (by omega) (by omega) (by omega) (by omega) hv hd hDz hDv hDf)
    have HF : Hid (∀ w1 w2, w1.heap[w.heap.size]? = some (.cells (volCells db 1 (0 + 1) (1 - 0)) 126 (0, 0)) → w1.heap[db]? = some (.cells ((fillC D ((1 - 0 : Int).toNat * 64) (sealed 1 (0 + 1) (masterBody 1 0))).setIfInBounds 27776 (.slice none 0 0)) 103 (0, 0)) → (∀ q, q < (w.alloc (.cells (volCells db 1 0 0) 126)).heap.size → q ≠ w.heap.size → q ≠ db → w1.heap[q]? = (w.alloc (.cells (volCells db 1 0 0) 126)).heap[q]?) → Below 0 (w.alloc (.cells (volCells db 1 0 0) 126)) w1 → Below w1.heap.size w1 w2 → KindNew w2 w1.heap.size w.heap.size true (w1.heap.size + 5) → WayNew w w2 db true (w1.heap.size + 5)) := fun w1 w2 a1 a2 a3 a4 a5 a6 => wayNew_fin true 0 hDz hDf ha hdw a1 a2 a3 a4 a5 a6
    clear hv hd
    generalize hW : w.alloc (.cells (volCells db 1 0 0) 126) = W at KM c1 HF ⊢
    clear hD hDz hDv hDf ha hW
    go_enter Tryz.func82, Tryz.ntmps82
    go_wp2_with (first
      | (go_at_call 85; go_must (
          refine KM.out.mono ?_
          rintro e w1 ⟨rfl, hv1, hd1, ho1, hb1⟩
          have H1 := @id (Hid (_ ∧ _)) (And.intro hv1 (And.intro hd1 (And.intro ho1 hb1)))
          clear hv1 hd1 ho1 hb1))
      | (go_at_call 102; go_must (
          refine (kindOf_s _ _).mono ?_
          rintro e w2 ⟨rfl, hb2, hk2⟩
          have H2 := @id (Hid (WayNew w w2 db true _)) (HF.out w1 w2 H1.out.1 H1.out.2.1 H1.out.2.2.1 H1.out.2.2.2 hb2 hk2)
          clear hb2 hk2)))
    go_ret
    exact ⟨_, rfl, H2.out⟩
  clear hD hDz hDv hDf ha
  generalize WayNew w = WN at KS ⊢
  go_enter Tryz.func67, Tryz.ntmps67
  go_wp2_with (first
    | (go_at_call 76; go_must (
        refine (firstStart_any db w).mono ?_
        rintro e w0 ⟨rfl, rfl⟩))
    | (go_at_call 82; go_must (
        refine KS.out.mono ?_
        rintro e w1 ⟨kb, rfl, h1⟩
        have H1 := @id (Hid (WN w1 db true kb)) h1
        clear h1)))
  go_ret
  exact ⟨_, rfl, H1.out⟩

set_option maxHeartbeats 1000000 in
/-- anvil.New. -/
theorem newFull_steal (w : World) :
    Calls Tryz.prog 40 #[.int .i64 0] w fun e w' => ∃ a s, e = .returned (.tuple #[.pointer (some ⟨a, 0, none⟩), .int .i64 0]) ∧ Below w.heap.size w w' ∧ NewStore w w' a true s := by
  have KN : Hid (∀ Z : Array Value, Z.size = 27779 → Z[27776]? = some (.slice none 0 0) → Z[27777]? = some (.int .i64 0) → (∀ i, i < 27776 → Z[i]? = some (.int .u8 0)) → Calls Tryz.prog 67 #[.int .i64 0, .pointer (some ⟨w.heap.size, 0, none⟩)] (w.alloc (.cells Z 103)) fun e w' => ∃ kb, e = .returned (.iface 234 (.pointer (some ⟨kb, 0, none⟩))) ∧ WayNew (w.alloc (.cells Z 103)) w' w.heap.size true kb) := fun Z h1 h2 h3 h4 => wayNewFull_steal w.heap.size Z _ (heap_alloc_new w _) h1 h2 h3 h4
  go_enter Tryz.func40, Tryz.ntmps40
  go_wp2_with (first
    | (go_at_call 48; refine (known_any _ _).mono ?_; rintro e w' ⟨rfl, rfl⟩)
    | (go_at_call 67; go_must (
        refine (KN.out _ zeroDisk_size zeroDisk_slice zeroDisk_fuse zeroDisk_at).mono ?_
        rintro e w1 ⟨kb, rfl, h1⟩
        have H1 := @id (Hid (WayNew _ w1 w.heap.size true kb)) h1
        clear h1)))
  go_ret2
  obtain ⟨s, h1, h2⟩ := newStore_fin true H1.out rfl
  exact ⟨_, s, rfl, h1, h2⟩

set_option maxHeartbeats 1000000 in
theorem wayNewFull_noSteal (db : Nat) (D : Array Value) (w : World) (hD : w.heap[db]? = some (.cells D 103 (0, 0))) (hDz : D.size = 27779) (hDv : D[27776]? = some (.slice none 0 0)) (hDf : D[27777]? = some (.int .i64 0)) (ha : ∀ i, i < 27776 → D[i]? = some (.int .u8 0)) :
    Calls Tryz.prog 67 #[.int .i64 1, .pointer (some ⟨db, 0, none⟩)] w fun e w' => ∃ kb, e = .returned (.iface 224 (.pointer (some ⟨kb, 0, none⟩))) ∧ WayNew w w' db false kb := by
  have hdw : db < w.heap.size := lt_of_block' hD
  have KS : Hid (Calls Tryz.prog 82 #[.int .i64 1, .pointer (some ⟨w.heap.size, 0, none⟩)] (w.alloc (.cells (volCells db 1 0 0) 126)) fun e w' => ∃ kb, e = .returned (.iface 224 (.pointer (some ⟨kb, 0, none⟩))) ∧ WayNew w w' db false kb) := by
    have hv : (w.alloc (.cells (volCells db 1 0 0) 126)).heap[w.heap.size]? = some (.cells (volCells db 1 0 0) 126 (0, 0)) := heap_alloc_new w _
    have hd : (w.alloc (.cells (volCells db 1 0 0) 126)).heap[db]? = some (.cells D 103 (0, 0)) := (Below.heap_alloc _ _ _ hdw).trans hD
    have c1 : (w.alloc (.cells (volCells db 1 0 0) 126)).cell? ⟨w.heap.size, 1, none⟩ = some (.int .u32 1) := cell_at hv rfl
    have KM := @id (Hid (Calls _ _ _ _ _)) (mark_any w.heap.size db 1 0 0 1 1 D (w.alloc (.cells (volCells db 1 0 0) 126)) (by omega) (by omega) (by omega) (by omega) (by omega) (by omega) (by omega) (by omega) (by omega) (by omega) (by omega) hv hd hDz hDv hDf)
    have HF : Hid (∀ w1 w2, w1.heap[w.heap.size]? = some (.cells (volCells db 1 (0 + 1) (1 - 0)) 126 (0, 0)) → w1.heap[db]? = some (.cells ((fillC D ((1 - 0 : Int).toNat * 64) (sealed 1 (0 + 1) (masterBody 1 1))).setIfInBounds 27776 (.slice none 0 0)) 103 (0, 0)) → (∀ q, q < (w.alloc (.cells (volCells db 1 0 0) 126)).heap.size → q ≠ w.heap.size → q ≠ db → w1.heap[q]? = (w.alloc (.cells (volCells db 1 0 0) 126)).heap[q]?) → Below 0 (w.alloc (.cells (volCells db 1 0 0) 126)) w1 → Below w1.heap.size w1 w2 → KindNew w2 w1.heap.size w.heap.size false (w1.heap.size + 6) → WayNew w w2 db false (w1.heap.size + 6)) := fun w1 w2 a1 a2 a3 a4 a5 a6 => wayNew_fin false 1 hDz hDf ha hdw a1 a2 a3 a4 a5 a6
    clear hv hd
    generalize hW : w.alloc (.cells (volCells db 1 0 0) 126) = W at KM c1 HF ⊢
    clear hD hDz hDv hDf ha hW
    go_enter Tryz.func82, Tryz.ntmps82
    go_wp2_with (first
      | (go_at_call 85; go_must (
          refine KM.out.mono ?_
          rintro e w1 ⟨rfl, hv1, hd1, ho1, hb1⟩
          have H1 := @id (Hid (_ ∧ _)) (And.intro hv1 (And.intro hd1 (And.intro ho1 hb1)))
          clear hv1 hd1 ho1 hb1))
      | (go_at_call 102; go_must (
          refine (kindOf_n _ _).mono ?_
          rintro e w2 ⟨rfl, hb2, hk2⟩
          have H2 := @id (Hid (WayNew w w2 db false _)) (HF.out w1 w2 H1.out.1 H1.out.2.1 H1.out.2.2.1 H1.out.2.2.2 hb2 hk2)
          clear hb2 hk2)))
    go_ret
    exact ⟨_, rfl, H2.out⟩
  clear hD hDz hDv hDf ha
  generalize WayNew w = WN at KS ⊢
  go_enter Tryz.func67, Tryz.ntmps67
  go_wp2_with (first
    | (go_at_call 76; go_must (
        refine (firstStart_any db w).mono ?_
        rintro e w0 ⟨rfl, rfl⟩))
    | (go_at_call 82; go_must (
        refine KS.out.mono ?_
        rintro e w1 ⟨kb, rfl, h1⟩
        have H1 := @id (Hid (WN w1 db false kb)) h1
        clear h1)))
  go_ret
  exact ⟨_, rfl, H1.out⟩

set_option maxHeartbeats 1000000 in
/-- anvil.New. -/
theorem newFull_noSteal (w : World) :
    Calls Tryz.prog 40 #[.int .i64 1] w fun e w' => ∃ a s, e = .returned (.tuple #[.pointer (some ⟨a, 0, none⟩), .int .i64 0]) ∧ Below w.heap.size w w' ∧ NewStore w w' a false s := by
  have KN : Hid (∀ Z : Array Value, Z.size = 27779 → Z[27776]? = some (.slice none 0 0) → Z[27777]? = some (.int .i64 0) → (∀ i, i < 27776 → Z[i]? = some (.int .u8 0)) → Calls Tryz.prog 67 #[.int .i64 1, .pointer (some ⟨w.heap.size, 0, none⟩)] (w.alloc (.cells Z 103)) fun e w' => ∃ kb, e = .returned (.iface 224 (.pointer (some ⟨kb, 0, none⟩))) ∧ WayNew (w.alloc (.cells Z 103)) w' w.heap.size false kb) := fun Z h1 h2 h3 h4 => wayNewFull_noSteal w.heap.size Z _ (heap_alloc_new w _) h1 h2 h3 h4
  go_enter Tryz.func40, Tryz.ntmps40
  go_wp2_with (first
    | (go_at_call 48; refine (known_any _ _).mono ?_; rintro e w' ⟨rfl, rfl⟩)
    | (go_at_call 67; go_must (
        refine (KN.out _ zeroDisk_size zeroDisk_slice zeroDisk_fuse zeroDisk_at).mono ?_
        rintro e w1 ⟨kb, rfl, h1⟩
        have H1 := @id (Hid (WayNew _ w1 w.heap.size false kb)) h1
        clear h1)))
  go_ret2
  obtain ⟨s, h1, h2⟩ := newStore_fin false H1.out rfl
  exact ⟨_, s, rfl, h1, h2⟩
end Go.Proofs.YtihbngfbcnojcaaGreat
