import Derived.Test.YtihbngfbcnojcaaGreatHidC08
import Derived.RegionTactic
import Derived.ChangeAlike
import Derived.BigRegion
import Derived.WalkKit
import Derived.WalkSpells
import Derived.WalkLawsBesides
namespace Go.Proofs.YtihbngfbcnojcaaGreat
open Go.RowKit

/-- One action more. -/
def acted (s : Sv) : Sv := { s with acts := s.acts + 1 }
theorem acted_cells (s : Sv) : (acted s).cells = s.cells.setIfInBounds 7 (.int .i64 ((s.acts + 1 : Nat) : Int)) := by
  unfold Sv.cells
  have : (acted s).made = s.made := rfl
  rw [this]
  cases s.made <;> simp [acted]
theorem act_step {w : World} {s : Sv} (h : Lies w s) (g : Good s) (hac : s.acts < 120) : Goes w (w.setCell ⟨s.kb, 7, none⟩ (.int .i64 ((s.acts : Int) + 1))) s (acted s) := by
  have hk : w.heap[s.kb]? = some (.cells s.cells s.ty (0, 0)) := h.comp .kind
  have hn : ((s.acts : Int) + 1) = ((s.acts + 1 : Nat) : Int) := by omega
  have ho : ∀ k, k ≠ s.kb → (w.setCell ⟨s.kb, 7, none⟩ (.int .i64 ((s.acts : Int) + 1))).heap[k]? = w.heap[k]? := fun k hk' => Below.heap_setCell _ _ _ _ hk'
  refine ⟨h.step (fun tag => tag = .kind) ?_ ?_ ?_ ?_ ?_ ?_, ?_, fun tag k hk' => .inl hk', fun k _ hnt => ho k (fun e => hnt .kind (by rw [e]; rfl)), (Below.refl _ _).setCell (p := ⟨s.kb, 7, none⟩) (Nat.zero_le _) _⟩
  · intro tag ht
    refine ⟨rfl, fun W hW => ?_⟩
    cases tag using Tag.elim with
    | kind => exact absurd rfl ht
    | _ => exact hW
  · intro tag k ht hk'
    exact ho k (fun e => ht (h.apart tag .kind k hk' (by rw [e]; rfl)))
  · rintro tag rfl
    show (w.setCell ⟨s.kb, 7, none⟩ (.int .i64 ((s.acts : Int) + 1))).heap[s.kb]? = some (.cells (acted s).cells s.ty (0, 0))
    rw [acted_cells, ← hn]
    exact setCell_at w s.kb 7 _ _ s.ty hk
  · intro tag k _ hk'
    exact .inl hk'
  · intro a b k ha hb _ _
    rw [ha, hb]
  · simp
  · have := g.ct
    have := g.mon
    exact { dsz := g.dsz, dv := g.dv, fuse := g.fuse, ok := g.ok, wn := g.wn, ln := g.ln, db := g.db, wb := g.wb, have' := g.have', lack := g.lack, room := g.room, load := g.load, rise := g.rise, st := g.st, ct := by show 0 ≤ s.count ∧ s.count ≤ 100 + s.len + 1000 * ((s.acts + 1 : Nat) : Int); omega, ac := by show s.acts + 1 ≤ 120; omega, mon := by show s.mo.n ≤ s.acts + 1; omega, mcn := g.mcn, isOpen := g.isOpen, notOpen := g.notOpen }

/-- What a write leaves of a store that changes its pages at once. -/
structure Wrote (s s' : Sv) (t : Int) (x : TxE) (key : ByteArray) (is : Bool) (val : ByteArray) : Prop where
  cont : s'.cont = fun m => if m = bucket key then withL (s.cont m) key is val else s.cont m
  tx : s'.tx = fun u => if u = t then some { x with last := s.len + 1, nH := x.nH + 1, H := x.H.put (lit key) (.held (.int .i64 (max (holdOf x.H key) 2))) } else s.tx u
  acts : s'.acts = s.acts + 1
  ws : s'.ws = s.ws ++ [(34 + s.len, sealed s.start (s.count + 1) (EntV.body ⟨1, t, (x.last : Int), 0, key, (under (s.cont (bucket key)) key).1, (under (s.cont (bucket key)) key).2, is, val⟩))]
  D : s'.D = s.D.setIfInBounds 27776 s'.v
  nums : s'.len = s.len + 1 ∧ s'.count = s.count + 1 ∧ s'.start = s.start ∧ s'.turn = s.turn ∧ s'.begun = s.begun
  same : s'.kb = s.kb ∧ s'.vb = s.vb ∧ s'.db = s.db ∧ s'.ty = s.ty ∧ s'.mo = s.mo ∧ s'.made = s.made ∧ s'.mt = s.mt ∧ s'.mc.n = s.mc.n + 1

theorem wrote_of {s s2 s4 : Sv} {t : Int} {x : TxE} {key : ByteArray} {is : Bool} {val : ByteArray} {v' : Value} {p' : PgV} (h2 : Paged (granted (acted s) t x key 2) s2) (x2 : TxE) (hx2 : s2.tx t = some x2)
    (h4 : Paged (entered s2 t x2 ⟨1, 0, 0, 0, key, (under (s.cont (bucket key)) key).1, (under (s.cont (bucket key)) key).2, is, val⟩ v') s4) : Wrote s (s4.put (bucket key) p' (withL (s.cont (bucket key)) key is val)) t x key is val := by
  obtain ⟨P, m, rfl, hm⟩ := h2
  obtain ⟨P', m', rfl, hm'⟩ := h4
  have hx2' : x2 = { x with nH := x.nH + 1, H := x.H.put (lit key) (.held (.int .i64 (max (holdOf x.H key) 2))) } := by
    simp [granted, acted] at hx2
    exact hx2.symm
  subst hx2'
  refine ⟨?_, ?_, rfl, rfl, rfl, ⟨rfl, rfl, rfl, rfl, rfl⟩, rfl, rfl, rfl, rfl, rfl, rfl, rfl, rfl⟩
  · funext m
    show (if m = bucket key then _ else s.cont m) = _
    by_cases hm : m = bucket key
    · rw [if_pos hm, if_pos hm, hm]
    · rw [if_neg hm, if_neg hm]
  · funext u
    show (if u = t then _ else (if u = t then _ else s.tx u)) = _
    by_cases hu : u = t
    · rw [if_pos hu, if_pos hu]; rfl
    · rw [if_neg hu, if_neg hu, if_neg hu]
end Go.Proofs.YtihbngfbcnojcaaGreat

namespace Go.Proofs.YtihbngfbcnojcaaGreat
open Go.RowKit

theorem Goes.drew {w w' : World} {s s' : Sv} (h : Goes w w' s s') : Goes w w'.drew s s' := ⟨h.lies.frame (fun _ _ _ => rfl) (Nat.le_refl _), h.good, h.grown, h.off, h.below.drew⟩

theorem under_fits {ps : Pairs} (h : ∀ p ∈ ps, p.1.size ≤ 8 ∧ p.2.size ≤ 12) (key : ByteArray) : (under ps key).2.size ≤ 12 := by
  induction ps with
  | nil => simp [under]
  | cons p r ih =>
    rw [under]
    split
    · exact (h p (by simp)).2
    · exact ih (fun q hq => h q (by simp [hq]))

set_option maxRecDepth 100000 in
set_option maxHeartbeats 2000000 in
/-- (*steal).Write. -/
theorem stealWrite_step {w : World} {s : Sv} {q : Nat} (h : Lies w s) (g : Good s) (hh : Held s q) (hq : q ≤ 99999) (hac : s.acts < 120) (hlen : s.len ≤ 390) (t : Int) (ht : 0 ≤ t ∧ t < 256) (x : TxE) (hx : s.tx t = some x) (hlast : x.last ≤ s.len) (key : ByteArray) (hks : key.size ≤ 8) (is : Bool) (val : ByteArray) (hvs : val.size ≤ 12) (hfit : (withL (s.cont (bucket key)) key is val).length ≤ 4) :
    Calls Tryz.prog 303 #[.pointer (some ⟨s.kb, 0, none⟩), .int .i64 t, .string key, .agg #[.bool is, .string val]] w fun e w' => e = .returned (.tuple #[]) ∧ ∃ s', Wrote s s' t x key is val ∧ Goes w w' s s' ∧ Held s' (q + 1) := by
  have hti : IsInt t := ⟨by omega, by omega⟩
  obtain ⟨W0, hW0⟩ : ∃ W0, w.alloc (.cells #[.bool is, .string val] 38) = W0 := ⟨_, rfl⟩
  have hB0 : Below w.heap.size w W0 := by rw [← hW0]; exact (Below.refl _ w).alloc (Nat.le_refl _) _
  have hn0 : W0.heap[w.heap.size]? = some (.cells #[.bool is, .string val] 38 (0, 0)) := by rw [← hW0]; exact heap_alloc_new w _
  have hz0 : w.heap.size < W0.heap.size := lt_of_block' hn0
  have hL0 : Lies W0 s := h.below hB0
  have hG1 : Goes W0 (W0.setCell ⟨s.kb, 7, none⟩ (.int .i64 ((s.acts : Int) + 1))) s (acted s) := act_step hL0 g hac
  have hkw : s.kb < w.heap.size := h.lt .kind _ rfl
  rw [← hW0, World.setCell_alloc_past _ _ _ _ hkw, hW0] at hG1
  have c7 : w.cell? ⟨s.kb, 7, none⟩ = some (.int .i64 (s.acts : Int)) := cell_at (h.comp .kind) (cells_of s (by omega) rfl)
  have f7 : w.frozen? ⟨s.kb, 7, none⟩ = false := frozen_at 7 (h.comp .kind)
  have hw7 : wrap64 ((s.acts : Int) + 1) = (s.acts : Int) + 1 := by simp only [wrap64]; omega
  have KG : Hid (∀ W, Goes W0 W s (acted s) → Calls Tryz.prog 294 #[.pointer (some ⟨s.kb, 0, none⟩), .int .i64 t, .string key, .int .i64 2] W fun e w' => e = .returned (.tuple #[]) ∧ Goes W0 w' s (granted (acted s) t x key 2) ∧ Held (granted (acted s) t x key 2) (q + 1)) := fun W hW => (grant_step hW.lies hW.good hh (by omega) t hti x hx key hks 2 (by omega)).mono fun e w' ⟨h1, h2, h3⟩ => ⟨h1, hW.trans h2, h3⟩
  have KR : Hid (∀ W, Goes W0 W s (granted (acted s) t x key 2) → Calls Tryz.prog 289 #[.pointer (some ⟨s.kb, 2, none⟩), .string key] W fun e w' => e = .returned (.agg #[.bool (under (s.cont (bucket key)) key).1, .string (under (s.cont (bucket key)) key).2]) ∧ ∃ s', Paged (granted (acted s) t x key 2) s' ∧ Goes W0 w' s s') := fun W hW => (get_step hW.lies hW.good key hks).mono fun e w' ⟨h1, s', h2, h3⟩ => ⟨h1, s', h2, hW.trans h3⟩
  have hold := under_fits (g.rise _ (bucket_lt key)).2.2 key
  have KE : Hid (∀ W s2, Paged (granted (acted s) t x key 2) s2 → Held s2 (q + 1) → Goes W0 W s s2 → Calls Tryz.prog 288 #[.pointer (some ⟨s.kb, 0, none⟩), .int .i64 t, .agg #[.int .i64 1, .int .i64 0, .int .i64 0, .int .i64 0, .string key, .bool (under (s.cont (bucket key)) key).1, .string (under (s.cont (bucket key)) key).2, .bool is, .string val]] W fun e w' => e = .returned (.tuple #[]) ∧ ∃ x2 v', s2.tx t = some x2 ∧ Goes W0 w' s (entered s2 t x2 ⟨1, 0, 0, 0, key, (under (s.cont (bucket key)) key).1, (under (s.cont (bucket key)) key).2, is, val⟩ v') ∧ Held (entered s2 t x2 ⟨1, 0, 0, 0, key, (under (s.cont (bucket key)) key).1, (under (s.cont (bucket key)) key).2, is, val⟩ v') (q + 1)) := fun W s2 hp hh2 hW => by
    obtain ⟨P, m, hs2, _⟩ := hp
    obtain ⟨x2, hx2, hl2⟩ : ∃ x2, s2.tx t = some x2 ∧ x2.last = x.last := ⟨{ x with nH := x.nH + 1, H := x.H.put (lit key) (.held (.int .i64 (max (holdOf x.H key) 2))) }, by rw [hs2]; simp [granted], rfl⟩
    have hkb2 : s2.kb = s.kb := by rw [hs2]; rfl
    have hlen2 : s2.len = s.len := by rw [hs2]; rfl
    rw [← hkb2]
    refine (enter_step hW.lies hW.good hh2 (by rw [hlen2]; exact hlen) t ht x2 hx2 ⟨1, 0, 0, 0, key, (under (s.cont (bucket key)) key).1, (under (s.cont (bucket key)) key).2, is, val⟩ ⟨by simp, by simpa using ht, by simp only; rw [hl2]; omega, by simp, hks, hold, hvs⟩).mono ?_
    rintro e w' ⟨h1, v', h2, h3⟩
    exact ⟨h1, x2, v', hx2, hW.trans h2, h3⟩
  have KS : Hid (∀ W s3 s2 x2 v', Paged (granted (acted s) t x key 2) s2 → s2.tx t = some x2 → s3 = entered s2 t x2 ⟨1, 0, 0, 0, key, (under (s.cont (bucket key)) key).1, (under (s.cont (bucket key)) key).2, is, val⟩ v' → Held s3 (q + 1) → Goes W0 W s s3 → Calls Tryz.prog 80 #[.pointer (some ⟨s.kb, 2, none⟩), .string key, .agg #[.bool is, .string val]] W fun e w' => e = .returned (.tuple #[]) ∧ ∃ s', Wrote s s' t x key is val ∧ Goes W0 w' s s' ∧ Held s' (q + 1)) := fun W s3 s2 x2 v' hp hx2 hs3 hh3 hW => by
    have hp' := hp
    obtain ⟨P, m, hs2, _⟩ := hp'
    have hkb3 : s3.kb = s.kb := by rw [hs3, hs2]; rfl
    have hct3 : s3.cont = s.cont := by rw [hs3, hs2]; rfl
    have hmc3 : s3.mc = s.mc := by rw [hs3, hs2]; rfl
    have hln3 : s3.len = s.len + 1 := by rw [hs3, hs2]; rfl
    have hmcn := g.mcn
    have K := set_step hW.lies hW.good key hks is val hvs (by rw [hmc3, hln3]; omega) (by rw [hct3]; exact hfit)
    rw [hkb3, hct3] at K
    refine K.mono ?_
    rintro e w' ⟨h1, s4, p', h2, h3⟩
    exact ⟨h1, _, wrote_of hp x2 hx2 (hs3 ▸ h2), hW.trans h3, fun u y hy => h2.held hh3 u y hy⟩
  have HFIN : Hid (∀ w' s', Goes W0 w' s s' → Goes w w' s s') := fun w' s' hg => Goes.wrap h hB0 hg (fun _ _ _ => rfl) (Below.refl _ _)
  have HOWN : Hid (∀ w' s', Goes W0 w' s s' → w'.heap[w.heap.size]? = some (.cells #[.bool is, .string val] 38 (0, 0))) := fun w' s' hg => ((hg.own h (Nat.le_refl _) hz0).1).trans hn0
  have HG1 := @id (Hid (Goes W0 _ s (acted s))) hG1
  generalize under (s.cont (bucket key)) key = u at KR KE KS
  obtain ⟨ui, us⟩ := u
  simp only at KR KE KS
  generalize granted (acted s) t x key 2 = s1 at KG KR KE KS
  generalize acted s = s0 at KG HG1
  generalize (s.acts : Int) = ac at c7 hw7 HG1
  generalize hkb : s.kb = kb at KG KR KE KS HG1 c7 f7 hkw ⊢
  clear h g hh hx hfit hG1 hL0 hn0 hold hlast hz0 hB0
  subst hW0
  go_enter Tryz.func303, Tryz.ntmps303
  go_wp2_with (first
    | (go_at_call 294; go_must (
        refine (KG.out _ HG1.out).mono ?_
        rintro e w1 ⟨rfl, hg1, hh1⟩
        have HG2 := @id (Hid (Goes _ w1 s s1)) hg1
        have HH2 : Hid (Held s1 (q + 1)) := hh1
        have z0 : w1.cell? ⟨w.heap.size, 0, none⟩ = some (.bool is) := cell_at (j := 0) (HOWN.out _ _ hg1) rfl
        have z1 : w1.cell? ⟨w.heap.size, 1, none⟩ = some (.string val) := cell_at (j := 1) (HOWN.out _ _ hg1) rfl
        clear hg1 hh1)))
  go_region_held3 (fun w' => w'.cell? ⟨w.heap.size, 0, none⟩ = some (.bool is) ∧ w'.cell? ⟨w.heap.size, 1, none⟩ = some (.string val))
    (go_keep)
    (first
      | (go_at_call 289; go_must (
          refine (KR.out _ HG2.out.drew).mono ?_
          rintro e w2 ⟨rfl, s2, hp2, hg2⟩
          have HP3 : Hid (Paged s1 s2) := hp2
          have HG3 := @id (Hid (Goes _ w2 s s2)) hg2
          have a0 : w2.cell? ⟨w.heap.size, 0, none⟩ = some (.bool is) := cell_at (j := 0) (HOWN.out _ _ hg2) rfl
          have a1 : w2.cell? ⟨w.heap.size, 1, none⟩ = some (.string val) := cell_at (j := 1) (HOWN.out _ _ hg2) rfl
          clear hp2 hg2))
      | (go_at_call 288; go_must (
          refine (KE.out w2 s2 HP3.out (HP3.out.held HH2.out) HG3.out).mono ?_
          rintro e w3 ⟨rfl, x2, v', hx2, hg3, hh3⟩
          have HX2 : Hid (s2.tx t = some x2) := hx2
          have HG4 := @id (Hid (Goes _ w3 s _)) hg3
          have HH4 := @id (Hid (Held _ (q + 1))) hh3
          have b0 : w3.cell? ⟨w.heap.size, 0, none⟩ = some (.bool is) := cell_at (j := 0) (HOWN.out _ _ hg3) rfl
          have b1 : w3.cell? ⟨w.heap.size, 1, none⟩ = some (.string val) := cell_at (j := 1) (HOWN.out _ _ hg3) rfl
          clear hx2 hg3 hh3)))
  all_goals
    go_wp2
    go_region_held3 (fun w' => w'.cell? ⟨w.heap.size, 0, none⟩ = some (.bool is) ∧ w'.cell? ⟨w.heap.size, 1, none⟩ = some (.string val))
      (go_keep)
      (first
        | (go_at_call 80; go_must (
            refine (KS.out _ _ s2 x2 v' HP3.out HX2.out rfl HH4.out HG4.out.drew).mono ?_
            rintro e w4 ⟨rfl, s', hwr, hg4, hh4⟩
            have HF : Hid (∃ s', Wrote s s' t x key is val ∧ Goes w w4 s s' ∧ Held s' (q + 1)) := ⟨s', hwr, HFIN.out _ _ hg4, hh4⟩
            have d0 : w4.cell? ⟨w.heap.size, 0, none⟩ = some (.bool is) := cell_at (j := 0) (HOWN.out _ _ hg4) rfl
            have d1 : w4.cell? ⟨w.heap.size, 1, none⟩ = some (.string val) := cell_at (j := 1) (HOWN.out _ _ hg4) rfl
            clear hwr hg4 hh4)))
    all_goals
      go_wp2
      go_end0
      exact ⟨rfl, HF.out⟩
end Go.Proofs.YtihbngfbcnojcaaGreat

namespace Go.Proofs.YtihbngfbcnojcaaGreat
open Go.RowKit

theorem apply_facts (D : Array Value) (hz : D.size = 27779) : ∀ rs : List (Nat × List Value), WsOk rs.reverse → (∀ a, a < 434 → ((applyW D rs.reverse).extract (a * 64) (a * 64 + 64)).toList = readW D rs.reverse a) ∧ (∀ j, 27776 ≤ j → (applyW D rs.reverse)[j]? = D[j]?) ∧
    ((∀ i u, i < 27776 → D[i]? = some u → IsByte u) → (∀ p ∈ rs.reverse, ∀ u ∈ p.2, IsByte u) → ∀ i u, i < 27776 → (applyW D rs.reverse)[i]? = some u → IsByte u)
  | [], _ => ⟨fun a _ => by simp [readW, applyW], fun j _ => by simp [applyW], fun h _ => by simpa [applyW] using h⟩
  | p :: r, hok => by
    rw [List.reverse_cons] at hok ⊢
    obtain ⟨i1, i2, i3⟩ := apply_facts D hz r (fun q hq => hok q (by simp at hq ⊢; exact .inl hq))
    obtain ⟨p1, p2, p3⟩ := hok p (by simp)
    have hzz := applyW_size r.reverse D
    rw [applyW_snoc]
    generalize hA : applyW D r.reverse = A at i1 i2 i3 hzz ⊢
    have hr : ∀ a, readW D (r.reverse ++ [p]) a = if p.1 = a then p.2 else readW D r.reverse a := fun a => by
      unfold readW
      rw [List.reverse_append]
      by_cases h : p.1 = a
      · simp [h]
      · simp [h]
    refine ⟨fun a ha => ?_, fun j hj => ?_, fun hb hw i u hi hu => ?_⟩
    · rw [hr]
      by_cases h : p.1 = a
      · rw [if_pos h]
        apply List.ext_getElem?
        intro i
        rw [Array.getElem?_toList, Array.getElem?_extract, fillC_size]
        split
        · rw [fillC_at, if_pos (by omega), show a * 64 + i - p.1 * 64 = i by omega]
        · exact (List.getElem?_eq_none (by omega)).symm
      · rw [if_neg h, ← i1 a ha]
        congr 1
        apply Array.ext_getElem?
        intro i
        rw [Array.getElem?_extract, Array.getElem?_extract, fillC_size]
        split
        · rw [fillC_at, if_neg (by omega)]
        · rfl
    · rw [fillC_at, if_neg (by omega)]
      exact i2 j hj
    · rw [fillC_at] at hu
      split at hu
      · exact hw p (by simp) u (List.mem_of_getElem? hu)
      · exact i3 hb (fun q hq => hw q (by simp at hq ⊢; exact .inl hq)) i u hi hu
theorem apply_of (D : Array Value) (ws : List (Nat × List Value)) (hz : D.size = 27779) (hok : WsOk ws) : (∀ a, a < 434 → ((applyW D ws).extract (a * 64) (a * 64 + 64)).toList = readW D ws a) ∧ (∀ j, 27776 ≤ j → (applyW D ws)[j]? = D[j]?) ∧
    ((∀ i u, i < 27776 → D[i]? = some u → IsByte u) → (∀ p ∈ ws, ∀ u ∈ p.2, IsByte u) → ∀ i u, i < 27776 → (applyW D ws)[i]? = some u → IsByte u) := by
  have := apply_facts D hz ws.reverse
  rw [List.reverse_reverse] at this
  exact this hok

/-- All that was written is lasting. -/
def synced (s : Sv) : Sv := { s with D := (applyW s.D s.ws).setIfInBounds 27776 (.slice none 0 0), ws := [], v := .slice none 0 0 }

theorem synced_read (s : Sv) (g : Good s) (a : Nat) (ha : a < 434) : readW (synced s).D (synced s).ws a = readW s.D s.ws a := by
  obtain ⟨h1, _, _⟩ := apply_of s.D s.ws g.dsz g.ok
  rw [← h1 a ha]
  show (((applyW s.D s.ws).setIfInBounds 27776 (.slice none 0 0)).extract (a * 64) (a * 64 + 64)).toList = _
  congr 1
  apply Array.ext_getElem?
  intro i
  simp only [Array.getElem?_extract, Array.size_setIfInBounds]
  split
  · exact Array.getElem?_setIfInBounds_ne (by omega)
  · rfl

theorem Good.synced {s : Sv} (g : Good s) : Good (synced s) := by
  obtain ⟨h1, h2, h3⟩ := apply_of s.D s.ws g.dsz g.ok
  refine { dsz := ?_, dv := ?_, fuse := ?_, ok := fun p hp => (List.not_mem_nil hp).elim, wn := Nat.zero_le _, ln := g.ln, db := fun i u hi hu => ?_, wb := fun p hp => (List.not_mem_nil hp).elim, have' := g.have', lack := g.lack, room := g.room, load := fun n hn hp => ?_, rise := g.rise, st := g.st, ct := g.ct, ac := g.ac, mon := g.mon, mcn := g.mcn, isOpen := g.isOpen, notOpen := g.notOpen }
  · show ((applyW s.D s.ws).setIfInBounds 27776 (.slice none 0 0)).size = 27779
    rw [Array.size_setIfInBounds, applyW_size]; exact g.dsz
  · show ((applyW s.D s.ws).setIfInBounds 27776 (.slice none 0 0))[27776]? = some (.slice none 0 0)
    exact Array.getElem?_setIfInBounds_self_of_lt (by rw [applyW_size, g.dsz]; omega)
  · show ((applyW s.D s.ws).setIfInBounds 27776 (.slice none 0 0))[27777]? = some (.int .i64 0)
    rw [Array.getElem?_setIfInBounds_ne (by omega), h2 _ (by omega)]; exact g.fuse
  · have hu' : ((applyW s.D s.ws).setIfInBounds 27776 (.slice none 0 0))[i]? = some u := hu
    rw [Array.getElem?_setIfInBounds_ne (by omega)] at hu'
    exact h3 g.db g.wb i u hi hu'
  · obtain ⟨c0, c1, ⟨a1, a2, a3, a4⟩, hc⟩ := g.load n hn hp
    refine ⟨c0, c1, ⟨⟨?_, ?_⟩, ⟨?_, ?_⟩, a3, a4⟩, hc⟩
    · exact (synced_read s g _ (by omega)).trans a1.1
    · exact (synced_read s g _ (by omega)).trans a1.2
    · exact (synced_read s g _ (by omega)).trans a2.1
    · exact (synced_read s g _ (by omega)).trans a2.2

set_option maxHeartbeats 1000000 in
/-- journal.force, where something is unsynced. -/
theorem force_step {w : World} {s : Sv} (h : Lies w s) (g : Good s) (hne : s.ws ≠ []) :
    Calls Tryz.prog 287 #[.pointer (some ⟨s.kb, 0, none⟩)] w fun e w' => e = .returned (.tuple #[]) ∧ Goes w w' s (synced s) := by
  have hown : w.ownsRow (s.db + 1) 143 65 s.v s.ws.length (rowOf s.ws) := h.comp .uns
  have hln := g.ln
  have hwn := g.wn
  have KS : Hid (Calls Tryz.prog 117 #[.pointer (some ⟨s.db, 0, none⟩)] w fun e w' => e = .returned (.tuple #[]) ∧ Goes w w' s (synced s)) := by
    rcases hown.2 with ⟨_, h2⟩ | ⟨gb, cap, cur, e1, hb, hgc, _, _, _, hcur⟩
    · exact absurd (List.length_eq_zero_iff.1 h2) hne
    · have hdv : s.D[27776]? = some (.slice (some ⟨gb, 0, none⟩) s.ws.length cap) := by rw [g.dv, e1]
      refine (diskSync_any s.db (s.db + 1) gb cap s.ws s.D cur w (by omega) hb g.ok (by omega) (h.comp .disk) g.dsz hdv hgc (fun j u hu => ?_)).mono ?_
      · rw [← hcur, List.getElem?_take] at hu
        split at hu
        · simpa using hu
        · cases hu
      · rintro e w' ⟨rfl, k1, k2, k3⟩
        have hB : ∀ tag k, (synced s).blk tag = some k → s.blk tag = some k := fun tag k hk => by
          cases tag using Tag.elim with
          | uns => simp [synced, Value.ownBlock] at hk
          | _ => exact hk
        refine ⟨rfl, h.step (fun tag => tag = .disk ∨ tag = .uns) ?_ ?_ ?_ ?_ ?_ k3.size, g.synced, fun tag k hk => .inl (hB tag k hk), fun k hk hnt => k2 k hk (fun e => hnt .disk (by rw [e]; rfl)), k3⟩
        · intro tag ht
          simp only [not_or] at ht
          cases tag using Tag.elim with
          | disk => exact absurd rfl ht.1
          | uns => exact absurd rfl ht.2
          | _ => exact ⟨rfl, fun W hW => hW⟩
        · intro tag k ht hk
          simp only [not_or] at ht
          exact k2 k (h.lt tag k hk) (fun e => ht.1 (h.apart tag .disk k hk (by rw [e]; rfl)))
        · rintro tag (rfl | rfl)
          · exact k1
          · exact World.ownsRow_nil _ _ _ _
        · intro tag k _ hk
          exact .inl (hB tag k hk)
        · intro a b k _ _ h1 h2
          exact h.apart a b k (hB a k h1) (hB b k h2)
  have c0 : w.cell? ⟨s.kb, 0, none⟩ = some (.pointer (some ⟨s.vb, 0, none⟩)) := cell_at (h.comp .kind) (cells_of s (by omega) rfl)
  have v0 : w.cell? ⟨s.vb, 0, none⟩ = some (.pointer (some ⟨s.db, 0, none⟩)) := cell_at (h.comp .vol) rfl
  generalize Goes w = GO at KS ⊢
  generalize synced s = s' at KS ⊢
  clear hown
  go_enter Tryz.func287, Tryz.ntmps287
  go_wp2_with (first
    | (go_at_call 117; go_must (
        refine KS.out.mono ?_
        rintro e w1 ⟨rfl, hg⟩
        have HG : Hid (GO w1 s s') := hg
        clear hg)))
  go_end0
  exact ⟨rfl, HG.out⟩
end Go.Proofs.YtihbngfbcnojcaaGreat

namespace Go.Proofs.YtihbngfbcnojcaaGreat
open Go.RowKit

/-- A transaction is no longer open. -/
def ended (s : Sv) (t : Int) : Sv := { s with tx := fun u => if u = t then none else s.tx u, mo := ⟨s.mo.b, s.mo.n, s.mo.M.del (.int .i64 t)⟩ }
theorem ended_held {s : Sv} {q : Nat} (hh : Held s q) (t : Int) : Held (ended s t) q := fun u y hy => by
  by_cases hu : u = t
  · subst hu; simp [ended] at hy
  · simp [ended, hu] at hy; exact hh u y hy

theorem end_run {w : World} {s : Sv} (h : Lies w s) (g : Good s) (t : Int) (ht : IsInt t) (ty : TypeId) :
    ∃ w', (Builtin.delete_ #[227, 3] ty #[.map (some s.mo.b), .int .i64 t]).run Tryz.prog w = .ok (.tuple #[]) w' ∧ Goes w w' s (ended s t) := by
  have hm : MapOf w 3 s.mo.b s.mo.n s.mo.M := h.comp .mo
  obtain ⟨w', hr, hm', htu⟩ := World.ownsMap.drop hm (Maps.int_keyed Tryz.underlying3) Tryz.underlying227 (key_int t ht) ty
  obtain ⟨k1, k2, k3⟩ := mapTurned_facts htu
  have hB : ∀ tag k, (ended s t).blk tag = some k → s.blk tag = some k := fun tag k hk => by
    cases tag using Tag.elim with
    | tx u => by_cases hu : u = t
              · simp [ended, hu] at hk
              · simp [ended, hu] at hk; simp; exact hk
    | held u => by_cases hu : u = t
                · simp [ended, hu] at hk
                · simp [ended, hu] at hk; simp; exact hk
    | _ => exact hk
  refine ⟨w', hr, h.step (fun tag => tag = .mo ∨ tag = .tx t ∨ tag = .held t) ?_ ?_ ?_ ?_ ?_ (by omega), ?_, fun tag k hk => .inl (hB tag k hk), fun k _ hnt => k1 k (fun e => hnt .mo (by rw [e]; rfl)), k3⟩
  · intro tag htg
    simp only [not_or] at htg
    obtain ⟨t1, t2, t3⟩ := htg
    cases tag using Tag.elim with
    | mo => exact absurd rfl t1
    | tx u => have hu : u ≠ t := fun e => t2 (by rw [e]); exact ⟨by simp [ended, hu], fun W hW y hy => by simp [ended, hu] at hy; exact hW y hy⟩
    | held u => have hu : u ≠ t := fun e => t3 (by rw [e]); exact ⟨by simp [ended, hu], fun W hW y hy => by simp [ended, hu] at hy; exact hW y hy⟩
    | _ => exact ⟨rfl, fun W hW => hW⟩
  · intro tag k htg hk
    simp only [not_or] at htg
    exact k1 k (fun e => htg.1 (h.apart tag .mo k hk (by rw [e]; rfl)))
  · rintro tag (rfl | rfl | rfl)
    · exact hm'
    · intro y hy; simp [ended] at hy
    · intro y hy; simp [ended] at hy
  · intro tag k _ hk
    exact .inl (hB tag k hk)
  · intro a b k _ _ h1 h2
    exact h.apart a b k (hB a k h1) (hB b k h2)
  · exact { dsz := g.dsz, dv := g.dv, fuse := g.fuse, ok := g.ok, wn := g.wn, ln := g.ln, db := g.db, wb := g.wb, have' := g.have', lack := g.lack, room := g.room, load := g.load, rise := g.rise, st := g.st, ct := g.ct, ac := g.ac, mon := g.mon, mcn := g.mcn
            isOpen := fun u y hy => by
              by_cases hu : u = t
              · subst hu; simp [ended] at hy
              · simp [ended, hu] at hy
                exact fun zd => (Maps.atKey_del_other (by simpa using hu) zd).trans (g.isOpen u y hy zd)
            notOpen := fun u hy => by
              by_cases hu : u = t
              · subst hu; exact fun zd => Maps.atKey_del_same zd
              · simp [ended, hu] at hy
                exact fun zd => (Maps.atKey_del_other (by simpa using hu) zd).trans (g.notOpen u hy zd) }

/-- The state behind a commit of a store that changes its pages at once. -/
def Committed1 (s s' : Sv) (t : Int) (x : TxE) : Prop := (x.last = 0 ∧ s' = ended s t) ∨ (0 < x.last ∧ ∃ v', s' = ended (synced (entered s t x ⟨3, 0, 0, 0, ByteArray.empty, false, ByteArray.empty, false, ByteArray.empty⟩ v')) t)

set_option maxRecDepth 100000 in
set_option maxHeartbeats 1000000 in
/-- (*steal).Commit. -/
theorem stealCommit_step {w : World} {s : Sv} {q : Nat} (h : Lies w s) (g : Good s) (hh : Held s q) (hlen : s.len ≤ 390) (t : Int) (ht : 0 ≤ t ∧ t < 256) (x : TxE) (hx : s.tx t = some x) (hlast : x.last ≤ s.len) :
    Calls Tryz.prog 300 #[.pointer (some ⟨s.kb, 0, none⟩), .int .i64 t] w fun e w' => e = .returned (.tuple #[]) ∧ ∃ s', Committed1 s s' t x ∧ Goes w w' s s' ∧ Held s' q := by
  have hti : IsInt t := ⟨by omega, by omega⟩
  have hl := open_look hti (h.comp .mo) (g.isOpen t x hx)
  have c5 : w.cell? ⟨s.kb, 5, none⟩ = some (.map (some s.mo.b)) := cell_at (h.comp .kind) (cells_of s (by omega) rfl)
  have ctx : w.cell? ⟨x.tb, 0, none⟩ = some (.int .i64 (x.last : Int)) := cell_at (j := 0) (h.comp (.tx t) x hx) rfl
  by_cases h0 : x.last = 0
  · obtain ⟨w', hdel, hgo⟩ := end_run h g t hti 0
    rw [h0] at ctx
    have HF : Hid (∃ s', Committed1 s s' t x ∧ Goes w w' s s' ∧ Held s' q) := ⟨_, .inl ⟨h0, rfl⟩, hgo, ended_held hh t⟩
    clear h g hh hgo
    go_enter Tryz.func300, Tryz.ntmps300
    go_wp2
    go_end0
    exact ⟨rfl, HF.out⟩
  · have hpos : (0 : Int) < (x.last : Int) := by omega
    have KE := enter_step h g hh hlen t ht x hx ⟨3, 0, 0, 0, ByteArray.empty, false, ByteArray.empty, false, ByteArray.empty⟩ ⟨by simp, by simpa using ht, by simp only; omega, by simp, by simp, by simp, by simp⟩
    have KF : Hid (∀ v' W, Goes w W s (entered s t x ⟨3, 0, 0, 0, ByteArray.empty, false, ByteArray.empty, false, ByteArray.empty⟩ v') → Calls Tryz.prog 287 #[.pointer (some ⟨s.kb, 0, none⟩)] W fun e w' => e = .returned (.tuple #[]) ∧ Goes w w' s (synced (entered s t x ⟨3, 0, 0, 0, ByteArray.empty, false, ByteArray.empty, false, ByteArray.empty⟩ v'))) := fun v' W hW =>
      (force_step hW.lies hW.good (by show s.ws ++ [_] ≠ []; simp)).mono fun e w' ⟨h1, h2⟩ => ⟨h1, hW.trans h2⟩
    have KD : Hid (∀ v' W, Goes w W s (synced (entered s t x ⟨3, 0, 0, 0, ByteArray.empty, false, ByteArray.empty, false, ByteArray.empty⟩ v')) → Held (entered s t x ⟨3, 0, 0, 0, ByteArray.empty, false, ByteArray.empty, false, ByteArray.empty⟩ v') q → W.cell? ⟨s.kb, 5, none⟩ = some (.map (some s.mo.b)) ∧ ∃ w', (Builtin.delete_ #[227, 3] 0 #[.map (some s.mo.b), .int .i64 t]).run Tryz.prog W = .ok (.tuple #[]) w' ∧ ∃ s', Committed1 s s' t x ∧ Goes w w' s s' ∧ Held s' q) := fun v' W hW hh' => by
      refine ⟨cell_at (hW.lies.comp .kind) (cells_of _ (j := 5) (by omega) rfl), ?_⟩
      obtain ⟨w', hdel, hgo⟩ := end_run hW.lies hW.good t hti 0
      exact ⟨w', hdel, _, .inr ⟨by omega, v', rfl⟩, hW.trans hgo, ended_held (s := synced (entered s t x ⟨3, 0, 0, 0, ByteArray.empty, false, ByteArray.empty, false, ByteArray.empty⟩ v')) (fun u y hy => hh' u y hy) t⟩
    have HKE := @id (Hid (Calls _ _ _ w _)) KE
    simp only [EntV.cells] at HKE
    generalize Committed1 s = CM at KD ⊢
    clear h g hh KE
    go_enter Tryz.func300, Tryz.ntmps300
    go_wp2_with (first
      | (go_at_call 288; go_must (
          refine HKE.out.mono ?_
          rintro e w1 ⟨rfl, v', hg1, hh1⟩
          have HG1 := @id (Hid (Goes w w1 s _)) hg1
          have HH1 := @id (Hid (Held _ q)) hh1
          clear hg1 hh1))
      | (go_at_call 287; go_must (
          refine (KF.out v' w1 HG1.out).mono ?_
          rintro e w2 ⟨rfl, hg2⟩
          obtain ⟨d5, w3, hdel, hfin⟩ := KD.out v' w2 hg2 HH1.out
          have HF := @id (Hid _) hfin
          clear hg2 hfin)))
    go_end0
    exact ⟨rfl, HF.out⟩
end Go.Proofs.YtihbngfbcnojcaaGreat

namespace Go.Proofs.YtihbngfbcnojcaaGreat
open Go.RowKit

def cellIn : DataW Value → Option (Bool × ByteArray)
  | .held (.agg a) => match a.toList with
    | [.bool is, .string v] => some (is, v)
    | _ => none
  | _ => none
/-- What a transaction's own table says of a key. -/
def wroteIn (M : DataW Value) (key : ByteArray) : Option (Bool × ByteArray) := cellIn (M.atKey (lit key) (.map []))
def CellsOk (M : DataW Value) : Prop := ∀ key : ByteArray, (∀ zd, M.atKey (lit key) zd = zd) ∨ ∃ is val, key.size ≤ 8 ∧ val.size ≤ 12 ∧ ∀ zd, M.atKey (lit key) zd = .held (.agg #[.bool is, .string val])

/-- The tables of what open transactions have written, in a store that keeps it beside the pages. -/
structure Made (s : Sv) (md : TabV) : Prop where
  made : s.made = some md
  have' : ∀ t m, s.mt t = some m → ∀ zd, md.M.atKey (.int .i64 t) zd = .held (.map (some m.b))
  lack : ∀ t, s.mt t = none → ∀ zd, md.M.atKey (.int .i64 t) zd = zd
  cells : ∀ t m, s.mt t = some m → CellsOk m.M ∧ m.n ≤ s.acts
  num : md.n ≤ s.acts

def Sv.own (s : Sv) (t : Int) (key : ByteArray) : Option (Bool × ByteArray) := (s.mt t).bind (fun m => wroteIn m.M key)

theorem made_cell {w : World} {s : Sv} {md : TabV} (h : Lies w s) (hm : Made s md) : w.cell? ⟨s.kb, 8, none⟩ = some (.map (some md.b)) := by
  refine cell_at (h.comp .kind) ?_
  unfold Sv.cells
  rw [hm.made]
  rfl

theorem made_look {w : World} {s : Sv} {md : TabV} (h : Lies w s) (hm : Made s md) (t : Int) (ht : IsInt t) (key : ByteArray) (hks : key.size ≤ 8) :
    ∃ mv, (Instr.lookup 231 (.map (some md.b)) (.int .i64 t) false).run Tryz.prog w = .ok mv w ∧ (Instr.lookup 138 mv (.string key) true).run Tryz.prog w = .ok (.tuple #[.agg #[.bool ((s.own t key).getD (false, ByteArray.empty)).1, .string ((s.own t key).getD (false, ByteArray.empty)).2], .bool (s.own t key).isSome]) w := by
  have hmd : MapOf w 3 md.b md.n md.M := h.comp .made md hm.made
  obtain ⟨mv, hr, hv⟩ := hmd.look (Maps.int_keyed Tryz.underlying3) Tryz.underlying231 (z := .map none) (Tryz.zeroValue138 _) (key_int t ht)
  refine ⟨mv, hr, ?_⟩
  cases hmt : s.mt t with
  | none =>
    rw [hm.lack t hmt] at hv
    simp only [DataW.held.injEq] at hv
    subst hv
    have := Maps.look_nil (w := w) true (Maps.string_keyed Tryz.underlying9) Tryz.underlying138 (z := .agg #[.bool false, .string ByteArray.empty]) (Tryz.zeroValue38 _) (key_str key (by omega))
    simpa [Sv.own, hmt] using this
  | some m =>
    rw [hm.have' t m hmt] at hv
    simp only [DataW.held.injEq] at hv
    subst hv
    have hmm : MapOf w 9 m.b m.n m.M := h.comp (.madeOf t) m hmt
    obtain ⟨v, ps, hr2, hv2⟩ := World.ownsMap.look_ok hmm (Maps.string_keyed Tryz.underlying9) Tryz.underlying138 (z := .agg #[.bool false, .string ByteArray.empty]) (Tryz.zeroValue38 _) (zd := .held (.agg #[.bool false, .string ByteArray.empty])) (zp := []) rfl (key_str key (by omega))
    simp only [asIs, Option.some.injEq, Prod.mk.injEq] at hv2
    rw [hr2]
    rcases (hm.cells t m hmt).1 key with h1 | ⟨is, val, _, _, h1⟩
    · have e1 := hv2.1.trans (h1 _)
      simp only [DataW.held.injEq] at e1
      subst e1
      rw [Maps.has_false_of_atKey h1]
      have : s.own t key = none := by simp only [Sv.own, hmt, Option.bind_some, wroteIn]; rw [h1]; rfl
      rw [this]; rfl
    · have e1 := hv2.1.trans (h1 _)
      simp only [DataW.held.injEq] at e1
      subst e1
      rw [Maps.has_true_of_atKey h1]
      have : s.own t key = some (is, val) := by simp only [Sv.own, hmt, Option.bind_some, wroteIn]; rw [h1]; rfl
      rw [this]; rfl

theorem Made.granted {s : Sv} {md : TabV} (h : Made s md) (t : Int) (x : TxE) (key : ByteArray) (lv : Int) : Made (granted s t x key lv) md := ⟨h.made, h.have', h.lack, h.cells, h.num⟩

set_option maxRecDepth 100000 in
set_option maxHeartbeats 2000000 in
/-- (*noSteal).Read. -/
theorem noStealRead_step {w : World} {s : Sv} {q : Nat} {md : TabV} (h : Lies w s) (g : Good s) (hh : Held s q) (hm : Made s md) (hq : q ≤ 99999) (t : Int) (ht : IsInt t) (x : TxE) (hx : s.tx t = some x) (key : ByteArray) (hks : key.size ≤ 8) :
    Calls Tryz.prog 281 #[.pointer (some ⟨s.kb, 0, none⟩), .int .i64 t, .string key] w fun e w' => e = .returned (.agg #[.bool ((s.own t key).getD (under (s.cont (bucket key)) key)).1, .string ((s.own t key).getD (under (s.cont (bucket key)) key)).2]) ∧ ∃ s', Paged (granted s t x key 1) s' ∧ Goes w w' s s' ∧ Held s' (q + 1) := by
  have KG : Hid (∀ W, Below w.heap.size w W → Calls Tryz.prog 294 #[.pointer (some ⟨s.kb, 0, none⟩), .int .i64 t, .string key, .int .i64 1] W fun e w' => e = .returned (.tuple #[]) ∧ Goes W w' s (granted s t x key 1) ∧ Held (granted s t x key 1) (q + 1)) := fun W hW => grant_step (h.below hW) g hh (by omega) t ht x hx key hks 1 (by omega)
  have KR : Hid (∀ W0 W, Goes W0 W s (granted s t x key 1) → ∀ W', Below W.heap.size W W' → Calls Tryz.prog 289 #[.pointer (some ⟨s.kb, 2, none⟩), .string key] W' fun e w' => e = .returned (.agg #[.bool (under (s.cont (bucket key)) key).1, .string (under (s.cont (bucket key)) key).2]) ∧ ∃ s', Paged (granted s t x key 1) s' ∧ Goes W w' (granted s t x key 1) s') := fun W0 W hW W' hW' => (get_step (hW.lies.below hW') hW.good key hks).mono fun e w' ⟨h1, s', h2, h3⟩ => ⟨h1, s', h2, Goes.wrap hW.lies hW' h3 (fun _ _ _ => rfl) (Below.refl _ _)⟩
  have KM : Hid (∀ W0 W, Goes W0 W s (granted s t x key 1) → W.cell? ⟨s.kb, 8, none⟩ = some (.map (some md.b)) ∧ s.kb < W.heap.size ∧ ∃ mv, (Instr.lookup 231 (.map (some md.b)) (.int .i64 t) false).run Tryz.prog W = .ok mv W ∧ (Instr.lookup 138 mv (.string key) true).run Tryz.prog W = .ok (.tuple #[.agg #[.bool ((s.own t key).getD (false, ByteArray.empty)).1, .string ((s.own t key).getD (false, ByteArray.empty)).2], .bool (s.own t key).isSome]) W) := fun W0 W hW => by
    have a1 := made_cell hW.lies (hm.granted t x key 1)
    have a2 := made_look hW.lies (hm.granted t x key 1) t ht key hks
    exact ⟨a1, hW.lies.lt .kind _ rfl, a2⟩
  have HL : Hid (Lies w s) := h
  have HB0 : Hid (∀ o, Below w.heap.size w (w.alloc o)) := fun o => (Below.refl _ w).alloc (Nat.le_refl _) _
  generalize hs1 : granted s t x key 1 = s1 at KG KR KM ⊢
  generalize hkb : s.kb = kb at KG KR KM ⊢
  generalize s.own t key = ow at KM ⊢
  generalize under (s.cont (bucket key)) key = u at KR ⊢
  obtain ⟨ui, us⟩ := u
  clear h g hh hx hs1 hm
  cases ow with
  | none =>
    simp only [Option.getD_none, Option.isSome_none] at KM KR ⊢
    go_enter Tryz.func281, Tryz.ntmps281
    go_wp2_with (first
      | (go_at_call 294; go_must (
          refine (KG.out _ (HB0.out _)).mono ?_
          rintro e w1 ⟨rfl, hg1, hh1⟩
          have HG1 := @id (Hid (Goes _ w1 s s1)) hg1
          have HH1 : Hid (Held s1 (q + 1)) := hh1
          obtain ⟨c8, hkw, mv, l1, l2⟩ := KM.out _ w1 hg1
          clear hg1 hh1))
      | (go_at_call 289; go_must (
          refine (KR.out _ w1 HG1.out _ ((Below.refl _ w1).alloc (Nat.le_refl _) _)).mono ?_
          rintro e w2 ⟨rfl, s2, hp2, hg2⟩
          have HP2 : Hid (Paged s1 s2) := hp2
          have HG2 := @id (Hid (Goes _ w2 s s2)) (HG1.out.trans hg2)
          have q2 := (HG2.out.own HL.out (q := w.heap.size) (Nat.le_refl _) (by simp)).1.trans (heap_alloc_new w _)
          have x0 := cell_at (j := 0) q2 rfl
          have x1 := cell_at (j := 1) q2 rfl
          have y0 := frozen_at 0 q2
          have y1 := frozen_at 1 q2
          have HQQ := @id (Hid _) q2
          clear hp2 hg2 q2)))
    have k3 := setCell_at _ w.heap.size 1 (.string us) _ 38 (setCell_at w2 w.heap.size 0 (.bool ui) _ 38 HQQ.out)
    refine bodyPost_ret (v := .agg #[.bool ui, .string us]) (results_cell_row Tryz.results281 _ _ w.heap.size 38 #[.bool ui, .string us] (0, 0) _ rfl k3 Tryz.underlying38 rfl (by kernel_rfl)) rfl ⟨rfl, s2, HP2.out, ?_, HP2.out.held HH1.out⟩
    refine Goes.wrap HL.out (HB0.out _) HG2.out (fun k _ hk => ?_) ?_
    · have hk' : k ≠ w.heap.size := by simp at hk; omega
      rw [Below.heap_setCell _ _ _ _ hk', Below.heap_setCell _ _ _ _ hk']
    · exact ((Below.refl _ _).setCell (p := ⟨w.heap.size, 0, none⟩) (by simp) _).setCell (p := ⟨w.heap.size, 1, none⟩) (by simp) _
  | some c =>
    obtain ⟨ci, cs⟩ := c
    simp only [Option.getD_some, Option.isSome_some] at KM ⊢
    go_enter Tryz.func281, Tryz.ntmps281
    go_wp2_with (first
      | (go_at_call 294; go_must (
          refine (KG.out _ (HB0.out _)).mono ?_
          rintro e w1 ⟨rfl, hg1, hh1⟩
          have HG1 := @id (Hid (Goes _ w1 s s1)) hg1
          have HH1 : Hid (Held s1 (q + 1)) := hh1
          obtain ⟨c8, hkw, mv, l1, l2⟩ := KM.out _ w1 hg1
          have q2 := (hg1.own HL.out (q := w.heap.size) (Nat.le_refl _) (by simp)).1.trans (heap_alloc_new w _)
          have hzw : w.heap.size < w1.heap.size := lt_of_block' q2
          have x0 := cell_at (j := 0) q2 rfl
          have x1 := cell_at (j := 1) q2 rfl
          have y0 := frozen_at 0 q2
          have y1 := frozen_at 1 q2
          have HQQ := @id (Hid _) q2
          clear hg1 hh1 q2)))
    have k3 := setCell_at _ w.heap.size 1 (.string cs) _ 38 (setCell_at w1 w.heap.size 0 (.bool ci) _ 38 HQQ.out)
    have k4 := (Below.heap_alloc ((w1.setCell ⟨w.heap.size, 0, none⟩ (.bool ci)).setCell ⟨w.heap.size, 1, none⟩ (.string cs)) (.cells #[.bool ci, .string cs] 38) w.heap.size (by simpa using hzw)).trans k3
    refine bodyPost_ret (v := .agg #[.bool ci, .string cs]) (results_cell_row Tryz.results281 _ _ w.heap.size 38 #[.bool ci, .string cs] (0, 0) _ rfl k4 Tryz.underlying38 rfl (by kernel_rfl)) rfl ⟨rfl, s1, Paged.refl _, ?_, HH1.out⟩
    refine Goes.wrap HL.out (HB0.out _) HG1.out (fun k hk1 hk => ?_) ?_
    · have hk' : k ≠ w.heap.size := by simp at hk; omega
      rw [Below.heap_alloc _ _ _ (by simpa using hk1), Below.heap_setCell _ _ _ _ hk', Below.heap_setCell _ _ _ _ hk']
    · exact (((Below.refl _ _).setCell (p := ⟨w.heap.size, 0, none⟩) (by simp) _).setCell (p := ⟨w.heap.size, 1, none⟩) (by simp) _).alloc (by simp) _
end Go.Proofs.YtihbngfbcnojcaaGreat

namespace Go.Proofs.YtihbngfbcnojcaaGreat
open Go.RowKit

theorem CellsOk.put {M : DataW Value} (h : CellsOk M) (hm : Maps.IsMap M) (key : ByteArray) (hk : key.size ≤ 8) (is : Bool) (val : ByteArray) (hv : val.size ≤ 12) : CellsOk (M.put (lit key) (.held (.agg #[.bool is, .string val]))) := fun s => by
  by_cases hs : s = key
  · subst hs
    exact .inr ⟨is, val, hk, hv, fun zd => Maps.atKey_put_same hm (by simp [WideAt.IsKeyLit]) _ _⟩
  · have hne : lit s ≠ lit key := fun e => hs (lit_inj e)
    rcases h s with h3 | ⟨a, b, h3, h4, h5⟩
    · exact .inl fun zd => (Maps.atKey_put_other hne _ _).trans (h3 zd)
    · exact .inr ⟨a, b, h3, h4, fun zd => (Maps.atKey_put_other hne _ _).trans (h5 zd)⟩
theorem CellsOk.empty : CellsOk (.map []) := fun key => .inl fun zd => Maps.atKey_of_not_has (by simp [Maps.has_eq]) zd

/-- A transaction gets a table of its own. -/
def newTab (s : Sv) (md : TabV) (t : Int) (nb : Nat) : Sv := { s with made := some ⟨md.b, md.n + 1, md.M.put (.int .i64 t) (.held (.map (some nb)))⟩, mt := fun u => if u = t then some ⟨nb, 0, .map []⟩ else s.mt u }
theorem newTab_cells {s : Sv} {md : TabV} (hm : s.made = some md) (t : Int) (nb : Nat) : (newTab s md t nb).cells = s.cells := by
  unfold Sv.cells
  rw [hm]
  rfl
/-- It writes into it. -/
def putTab (s : Sv) (t : Int) (m : TabV) (key : ByteArray) (is : Bool) (val : ByteArray) : Sv := { s with mt := fun u => if u = t then some ⟨m.b, m.n + 1, m.M.put (lit key) (.held (.agg #[.bool is, .string val]))⟩ else s.mt u }

theorem Good.newTab {s : Sv} (g : Good s) (md : TabV) (t : Int) (nb : Nat) : Good (newTab s md t nb) :=
  { dsz := g.dsz, dv := g.dv, fuse := g.fuse, ok := g.ok, wn := g.wn, ln := g.ln, db := g.db, wb := g.wb, have' := g.have', lack := g.lack, room := g.room, load := g.load, rise := g.rise, st := g.st, ct := g.ct, ac := g.ac, mon := g.mon, mcn := g.mcn, isOpen := g.isOpen, notOpen := g.notOpen }
theorem Good.putTab {s : Sv} (g : Good s) (t : Int) (m : TabV) (key : ByteArray) (is : Bool) (val : ByteArray) : Good (putTab s t m key is val) :=
  { dsz := g.dsz, dv := g.dv, fuse := g.fuse, ok := g.ok, wn := g.wn, ln := g.ln, db := g.db, wb := g.wb, have' := g.have', lack := g.lack, room := g.room, load := g.load, rise := g.rise, st := g.st, ct := g.ct, ac := g.ac, mon := g.mon, mcn := g.mcn, isOpen := g.isOpen, notOpen := g.notOpen }

theorem newTab_run {W : World} {s : Sv} {md : TabV} (h : Lies W s) (g : Good s) (hm : Made s md) (t : Int) (ht : IsInt t) (hmt : s.mt t = none) (hn : md.n < s.acts) :
    ∃ w', (Instr.mapUpdate 231 (.map (some md.b)) (.int .i64 t) (.map (some W.heap.size))).run Tryz.prog (W.alloc (.map #[] 0)) = .ok () w' ∧ Goes W w' s (newTab s md t W.heap.size) ∧ Made (newTab s md t W.heap.size) ⟨md.b, md.n + 1, md.M.put (.int .i64 t) (.held (.map (some W.heap.size)))⟩ := by
  have hac := g.ac
  have hmd : MapOf W 3 md.b md.n md.M := h.comp .made md hm.made
  have hbm : s.blk .made = some md.b := by simp [hm.made]
  have hB0 : Below W.heap.size W (W.alloc (.map #[] 0)) := (Below.refl _ W).alloc (Nat.le_refl _) _
  obtain ⟨w', hr, hm', htu⟩ := World.ownsMap.store (val := .map (some W.heap.size)) (hmd.below hB0) (Maps.int_keyed Tryz.underlying3) Tryz.underlying231 (by unfold maxLen; omega) (key_int t ht) rfl
  obtain ⟨k1, k2, k3⟩ := mapTurned_facts htu
  have hz : w'.heap.size = W.heap.size + 1 := by rw [k2]; simp
  have ho : ∀ q, q < W.heap.size → q ≠ md.b → w'.heap[q]? = W.heap[q]? := fun q h1 h2 => (k1 q h2).trans (hB0.block q h1)
  have hmb := h.lt .made _ hbm
  have hnew : MapOf w' 9 W.heap.size 0 (.map []) := MapOf.kept (World.ownsMap_made W Tryz.prog 9 asIs) (k1 _ (by omega))
  have hB : ∀ tag, tag ≠ .madeOf t → (newTab s md t W.heap.size).blk tag = s.blk tag := fun tag htg => by
    cases tag using Tag.elim with
    | made => rw [hbm]; rfl
    | madeOf u => have hu : u ≠ t := fun e => htg (by rw [e]); simp [newTab, hu]
    | _ => rfl
  have hBt : (newTab s md t W.heap.size).blk (.madeOf t) = some W.heap.size := by simp [newTab]
  refine ⟨w', hr, ⟨h.step (fun tag => tag = .made ∨ tag = .madeOf t) ?_ ?_ ?_ ?_ ?_ (by omega), g.newTab md t _, fun tag k hk => ?_, fun k hk hnt => ho k hk (fun e => hnt .made (by rw [hbm, e])), (hB0.mono (Nat.zero_le _)).trans k3⟩, ?_⟩
  · intro tag htg
    simp only [not_or] at htg
    refine ⟨hB tag htg.2, fun W' hW => ?_⟩
    cases tag using Tag.elim with
    | made => exact absurd rfl htg.1
    | madeOf u => have hu : u ≠ t := fun e => htg.2 (by rw [e]); intro y hy; simp [newTab, hu] at hy; exact hW y hy
    | kind =>
      show W'.heap[s.kb]? = some (.cells (newTab s md t W.heap.size).cells s.ty (0, 0))
      rw [newTab_cells hm.made]; exact hW
    | _ => exact hW
  · intro tag k htg hk
    simp only [not_or] at htg
    exact ho k (h.lt tag k hk) (fun e => htg.1 (h.apart tag .made k hk (by rw [hbm, e])))
  · rintro tag (rfl | rfl)
    · intro y hy
      simp [newTab] at hy
      subst hy
      exact hm'
    · intro y hy
      simp [newTab] at hy
      subst hy
      exact hnew
  · rintro tag k (rfl | rfl) hk
    · exact .inl ((hB .made (by simp)) ▸ hk)
    · rw [hBt] at hk; simp at hk; exact .inr (by omega)
  · rintro a b k (rfl | rfl) (rfl | rfl) h1 h2
    · rfl
    · rw [hB .made (by simp), hbm] at h1; rw [hBt] at h2; simp at h1 h2; omega
    · rw [hB .made (by simp), hbm] at h2; rw [hBt] at h1; simp at h1 h2; omega
    · rfl
  · by_cases htg : tag = .madeOf t
    · subst htg; rw [hBt] at hk; simp at hk; exact .inr (by omega)
    · rw [hB tag htg] at hk; exact .inl hk
  · refine ⟨rfl, fun u m hu zd => ?_, fun u hu zd => ?_, fun u m hu => ?_, hn⟩
    · by_cases hut : u = t
      · subst hut
        simp [newTab] at hu
        subst hu
        exact Maps.atKey_put_same (World.ownsMap.isMap hmd) (by simp [WideAt.IsKeyLit]) _ _
      · simp [newTab, hut] at hu
        exact (Maps.atKey_put_other (by simpa using hut) _ _).trans (hm.have' u m hu zd)
    · by_cases hut : u = t
      · subst hut; simp [newTab] at hu
      · simp [newTab, hut] at hu
        exact (Maps.atKey_put_other (by simpa using hut) _ _).trans (hm.lack u hu zd)
    · by_cases hut : u = t
      · subst hut
        simp [newTab] at hu
        subst hu
        exact ⟨CellsOk.empty, Nat.zero_le _⟩
      · simp [newTab, hut] at hu
        exact hm.cells u m hu

theorem putTab_run {W : World} {s : Sv} {md m : TabV} (h : Lies W s) (g : Good s) (hm : Made s md) (t : Int) (hmt : s.mt t = some m) (hn : m.n < s.acts) (key : ByteArray) (hks : key.size ≤ 8) (is : Bool) (val : ByteArray) (hvs : val.size ≤ 12) :
    ∃ w', (Instr.mapUpdate 138 (.map (some m.b)) (.string key) (.agg #[.bool is, .string val])).run Tryz.prog W = .ok () w' ∧ Goes W w' s (putTab s t m key is val) ∧ Made (putTab s t m key is val) md := by
  have hac := g.ac
  have hmm : MapOf W 9 m.b m.n m.M := h.comp (.madeOf t) m hmt
  have hbm : s.blk (.madeOf t) = some m.b := by simp [hmt]
  obtain ⟨w', hr, hm', htu⟩ := World.ownsMap.store (val := .agg #[.bool is, .string val]) hmm (Maps.string_keyed Tryz.underlying9) Tryz.underlying138 (by unfold maxLen; omega) (key_str key (by omega)) rfl
  obtain ⟨k1, k2, k3⟩ := mapTurned_facts htu
  have hB : ∀ tag, (putTab s t m key is val).blk tag = s.blk tag := fun tag => by
    cases tag using Tag.elim with
    | madeOf u =>
      by_cases hu : u = t
      · subst hu; simp [putTab, hmt]
      · simp [putTab, hu]
    | _ => rfl
  refine ⟨w', hr, ⟨h.step (fun tag => tag = .madeOf t) ?_ ?_ ?_ ?_ ?_ (by omega), g.putTab t m key is val, fun tag k hk => .inl (hB tag ▸ hk), fun k hk hnt => k1 k (fun e => hnt (.madeOf t) (by rw [hbm, e])), k3⟩, ?_⟩
  · intro tag htg
    refine ⟨hB tag, fun W' hW => ?_⟩
    cases tag using Tag.elim with
    | madeOf u => have hu : u ≠ t := fun e => htg (by rw [e]); intro y hy; simp [putTab, hu] at hy; exact hW y hy
    | _ => exact hW
  · intro tag k htg hk
    exact k1 k (fun e => htg (h.apart tag (.madeOf t) k hk (by rw [hbm, e])))
  · rintro tag rfl y hy
    simp [putTab] at hy
    subst hy
    exact hm'
  · intro tag k _ hk
    exact .inl (hB tag ▸ hk)
  · intro a b k ha hb _ _
    rw [ha, hb]
  · refine ⟨hm.made, fun u y hu zd => ?_, fun u hu zd => ?_, fun u y hu => ?_, hm.num⟩
    · by_cases hut : u = t
      · subst hut
        simp [putTab] at hu
        subst hu
        exact hm.have' u m hmt zd
      · simp [putTab, hut] at hu
        exact hm.have' u y hu zd
    · by_cases hut : u = t
      · subst hut; simp [putTab] at hu
      · simp [putTab, hut] at hu
        exact hm.lack u hu zd
    · by_cases hut : u = t
      · subst hut
        simp [putTab] at hu
        subst hu
        exact ⟨(hm.cells u m hmt).1.put (World.ownsMap.isMap hmm) key hks is val hvs, hn⟩
      · simp [putTab, hut] at hu
        exact hm.cells u y hu
end Go.Proofs.YtihbngfbcnojcaaGreat

namespace Go.Proofs.YtihbngfbcnojcaaGreat
open Go.RowKit

/-- What a write leaves of a store that keeps it beside the pages. -/
def WroteBeside (s s' : Sv) (md : TabV) (t : Int) (x : TxE) (key : ByteArray) (is : Bool) (val : ByteArray) : Prop :=
  (∃ m, s.mt t = some m ∧ s' = putTab (granted (acted s) t x key 2) t m key is val ∧ Made s' md) ∨
  (s.mt t = none ∧ ∃ nb, s' = putTab (newTab (granted (acted s) t x key 2) md t nb) t ⟨nb, 0, .map []⟩ key is val ∧ Made s' ⟨md.b, md.n + 1, md.M.put (.int .i64 t) (.held (.map (some nb)))⟩)

theorem Made.acted {s : Sv} {md : TabV} (h : Made s md) : Made (acted s) md := ⟨h.made, h.have', h.lack, fun t m hm => ⟨(h.cells t m hm).1, by have := (h.cells t m hm).2; show m.n ≤ s.acts + 1; omega⟩, by have := h.num; show md.n ≤ s.acts + 1; omega⟩

theorem made_tab {w : World} {s : Sv} {md : TabV} (h : Lies w s) (hm : Made s md) (t : Int) (ht : IsInt t) : (Instr.lookup 231 (.map (some md.b)) (.int .i64 t) false).run Tryz.prog w = .ok (.map ((s.mt t).map (·.b))) w := by
  have hmd : MapOf w 3 md.b md.n md.M := h.comp .made md hm.made
  obtain ⟨mv, hr, hv⟩ := hmd.look (Maps.int_keyed Tryz.underlying3) Tryz.underlying231 (z := .map none) (Tryz.zeroValue138 _) (key_int t ht)
  cases hmt : s.mt t with
  | none =>
    rw [hm.lack t hmt] at hv
    simp only [DataW.held.injEq] at hv
    subst hv
    exact hr
  | some m =>
    rw [hm.have' t m hmt] at hv
    simp only [DataW.held.injEq] at hv
    subst hv
    exact hr

theorem tabSome (b : Nat) (w : World) : (binOp .eql 138 (.map (some b)) (.map none)).run Tryz.prog w = .ok (.bool false) w := by kernel_rfl
theorem tabNil (w : World) : (binOp .eql 138 (.map none) (.map none)).run Tryz.prog w = .ok (.bool true) w := by kernel_rfl

set_option maxRecDepth 100000 in
set_option maxHeartbeats 2000000 in
/-- (*noSteal).Write. -/
theorem noStealWrite_step {w : World} {s : Sv} {q : Nat} {md : TabV} (h : Lies w s) (g : Good s) (hh : Held s q) (hm : Made s md) (hq : q ≤ 99999) (hac : s.acts < 120) (t : Int) (ht : IsInt t) (x : TxE) (hx : s.tx t = some x) (key : ByteArray) (hks : key.size ≤ 8) (is : Bool) (val : ByteArray) (hvs : val.size ≤ 12) :
    Calls Tryz.prog 282 #[.pointer (some ⟨s.kb, 0, none⟩), .int .i64 t, .string key, .agg #[.bool is, .string val]] w fun e w' => e = .returned (.tuple #[]) ∧ ∃ s', WroteBeside s s' md t x key is val ∧ Goes w w' s s' ∧ Held s' (q + 1) := by
  obtain ⟨W0, hW0⟩ : ∃ W0, w.alloc (.cells #[.bool is, .string val] 38) = W0 := ⟨_, rfl⟩
  have hB0 : Below w.heap.size w W0 := by rw [← hW0]; exact (Below.refl _ w).alloc (Nat.le_refl _) _
  have hn0 : W0.heap[w.heap.size]? = some (.cells #[.bool is, .string val] 38 (0, 0)) := by rw [← hW0]; exact heap_alloc_new w _
  have hz0 : w.heap.size < W0.heap.size := lt_of_block' hn0
  have hL0 : Lies W0 s := h.below hB0
  have hG1 : Goes W0 (W0.setCell ⟨s.kb, 7, none⟩ (.int .i64 ((s.acts : Int) + 1))) s (acted s) := act_step hL0 g hac
  have hkw : s.kb < w.heap.size := h.lt .kind _ rfl
  rw [← hW0, World.setCell_alloc_past _ _ _ _ hkw, hW0] at hG1
  have c7 : w.cell? ⟨s.kb, 7, none⟩ = some (.int .i64 (s.acts : Int)) := cell_at (h.comp .kind) (cells_of s (by omega) rfl)
  have f7 : w.frozen? ⟨s.kb, 7, none⟩ = false := frozen_at 7 (h.comp .kind)
  have hw7 : wrap64 ((s.acts : Int) + 1) = (s.acts : Int) + 1 := by simp only [wrap64]; omega
  have KG : Hid (∀ W, Goes W0 W s (acted s) → Calls Tryz.prog 294 #[.pointer (some ⟨s.kb, 0, none⟩), .int .i64 t, .string key, .int .i64 2] W fun e w' => e = .returned (.tuple #[]) ∧ Goes W0 w' s (granted (acted s) t x key 2) ∧ Held (granted (acted s) t x key 2) (q + 1)) := fun W hW => (grant_step hW.lies hW.good hh (by omega) t ht x hx key hks 2 (by omega)).mono fun e w' ⟨h1, h2, h3⟩ => ⟨h1, hW.trans h2, h3⟩
  have hm1 : Made (granted (acted s) t x key 2) md := hm.acted.granted t x key 2
  have KU : Hid (∀ W sX mdX mX, Goes W0 W s sX → Made sX mdX → sX.mt t = some mX → mX.n < sX.acts → sX.kb = s.kb → W.cell? ⟨s.kb, 8, none⟩ = some (.map (some mdX.b)) ∧ s.kb < W.heap.size ∧ (Instr.lookup 231 (.map (some mdX.b)) (.int .i64 t) false).run Tryz.prog W.drew = .ok (.map (some mX.b)) W.drew ∧ ∃ w', (Instr.mapUpdate 138 (.map (some mX.b)) (.string key) (.agg #[.bool is, .string val])).run Tryz.prog W.drew = .ok () w' ∧ Goes W0 w' s (putTab sX t mX key is val) ∧ Made (putTab sX t mX key is val) mdX) := fun W sX mdX mX hW hmX hmt hn hk => by
    have hWd := hW.drew
    have a1 := made_cell hW.lies hmX
    rw [hk] at a1
    have a2 := made_tab hWd.lies hmX t ht
    rw [hmt] at a2
    obtain ⟨w', b1, b2, b3⟩ := putTab_run hWd.lies hWd.good hmX t hmt hn key hks is val hvs
    exact ⟨a1, hk ▸ hW.lies.lt .kind _ rfl, a2, w', b1, hWd.trans b2, b3⟩
  have HFIN : Hid (∀ w' s', Goes W0 w' s s' → Goes w w' s s') := fun w' s' hg => Goes.wrap h hB0 hg (fun _ _ _ => rfl) (Below.refl _ _)
  have HOWN : Hid (∀ w' s', Goes W0 w' s s' → w'.heap[w.heap.size]? = some (.cells #[.bool is, .string val] 38 (0, 0))) := fun w' s' hg => ((hg.own h (Nat.le_refl _) hz0).1).trans hn0
  have HG1 := @id (Hid (Goes W0 _ s (acted s))) hG1
  have HM1 : Hid (Made (granted (acted s) t x key 2) md) := hm1
  have hnum := hm.num
  cases hmt : s.mt t with
  | some m =>
    have hmn := (hm.cells t m hmt).2
    have HD : Hid (∀ W, Goes W0 W s (granted (acted s) t x key 2) → W.cell? ⟨s.kb, 8, none⟩ = some (.map (some md.b)) ∧ s.kb < W.heap.size ∧ (Instr.lookup 231 (.map (some md.b)) (.int .i64 t) false).run Tryz.prog W = .ok (.map (some m.b)) W ∧ (Instr.lookup 231 (.map (some md.b)) (.int .i64 t) false).run Tryz.prog W.drew = .ok (.map (some m.b)) W.drew ∧ ∃ w', (Instr.mapUpdate 138 (.map (some m.b)) (.string key) (.agg #[.bool is, .string val])).run Tryz.prog W.drew = .ok () w' ∧ (Held (granted (acted s) t x key 2) (q + 1) → ∃ s', WroteBeside s s' md t x key is val ∧ Goes w w' s s' ∧ Held s' (q + 1))) := fun W hW => by
      obtain ⟨a1, a2, a3, w', a4, a5, a6⟩ := KU.out W _ md m hW HM1.out hmt (by show m.n < s.acts + 1; omega) rfl
      have a7 := made_tab hW.lies HM1.out t ht
      rw [show (granted (acted s) t x key 2).mt t = some m from hmt] at a7
      exact ⟨a1, a2, a7, a3, w', a4, fun hh' => ⟨_, .inl ⟨m, hmt, rfl, a6⟩, HFIN.out _ _ a5, fun u y hy => hh' u y hy⟩⟩
    have hnil := tabSome m.b
    generalize WroteBeside s = WB at HD ⊢
    generalize granted (acted s) t x key 2 = s1 at KG HD
    generalize acted s = s0 at KG HG1
    generalize (s.acts : Int) = ac at c7 hw7 HG1
    generalize hkb : s.kb = kb at KG HD HG1 c7 f7 hkw ⊢
    clear h g hh hx hG1 hL0 hn0 hz0 hB0 KU HM1 hm1 hm hmt hmn hnum
    subst hW0
    go_enter Tryz.func282, Tryz.ntmps282
    go_wp2_with (first
      | (go_at_call 294; go_must (
          refine (KG.out _ HG1.out).mono ?_
          rintro e w1 ⟨rfl, hg1, hh1⟩
          have z0 : w1.cell? ⟨w.heap.size, 0, none⟩ = some (.bool is) := cell_at (j := 0) (HOWN.out _ _ hg1) rfl
          have z1 : w1.cell? ⟨w.heap.size, 1, none⟩ = some (.string val) := cell_at (j := 1) (HOWN.out _ _ hg1) rfl
          obtain ⟨c8, hkw1, l1, l2, w2, hup, hfin⟩ := HD.out w1 hg1
          have HF := @id (Hid _) (hfin hh1)
          clear hg1 hh1 hfin)))
    go_wp2
    go_region
    all_goals
      go_wp2
      go_end0
      exact ⟨rfl, HF.out⟩
  | none =>
    have HD : Hid (∀ W, Goes W0 W s (granted (acted s) t x key 2) → W.cell? ⟨s.kb, 8, none⟩ = some (.map (some md.b)) ∧ s.kb < W.heap.size ∧ (Instr.lookup 231 (.map (some md.b)) (.int .i64 t) false).run Tryz.prog W = .ok (.map none) W ∧
        ∃ w2, (Instr.mapUpdate 231 (.map (some md.b)) (.int .i64 t) (.map (some W.heap.size))).run Tryz.prog (W.alloc (.map #[] 0)) = .ok () w2 ∧ w2.cell? ⟨w.heap.size, 0, none⟩ = some (.bool is) ∧ w2.cell? ⟨w.heap.size, 1, none⟩ = some (.string val) ∧ w2.cell? ⟨s.kb, 8, none⟩ = some (.map (some md.b)) ∧ (Instr.lookup 231 (.map (some md.b)) (.int .i64 t) false).run Tryz.prog w2.drew = .ok (.map (some W.heap.size)) w2.drew ∧
        ∃ w', (Instr.mapUpdate 138 (.map (some W.heap.size)) (.string key) (.agg #[.bool is, .string val])).run Tryz.prog w2.drew = .ok () w' ∧ (Held (granted (acted s) t x key 2) (q + 1) → ∃ s', WroteBeside s s' md t x key is val ∧ Goes w w' s s' ∧ Held s' (q + 1))) := fun W hW => by
      have a1 := made_cell hW.lies HM1.out
      have a7 := made_tab hW.lies HM1.out t ht
      rw [show (granted (acted s) t x key 2).mt t = none from hmt] at a7
      obtain ⟨w2, b1, b2, b3⟩ := newTab_run hW.lies hW.good HM1.out t ht hmt (by show md.n < s.acts + 1; omega)
      have hg2 := hW.trans b2
      obtain ⟨d1, d2, d3, w', d4, d5, d6⟩ := KU.out w2 _ _ ⟨W.heap.size, 0, .map []⟩ hg2 b3 (by simp [newTab]) (by show 0 < s.acts + 1; omega) rfl
      exact ⟨a1, hW.lies.lt .kind _ rfl, a7, w2, b1, cell_at (j := 0) (HOWN.out _ _ hg2) rfl, cell_at (j := 1) (HOWN.out _ _ hg2) rfl, d1, d3, w', d4, fun hh' => ⟨_, .inr ⟨hmt, _, rfl, d6⟩, HFIN.out _ _ d5, fun u y hy => hh' u y hy⟩⟩
    have hnil := tabNil
    have hmm := @run_makeMap Tryz.prog
    generalize WroteBeside s = WB at HD ⊢
    generalize granted (acted s) t x key 2 = s1 at KG HD
    generalize acted s = s0 at KG HG1
    generalize (s.acts : Int) = ac at c7 hw7 HG1
    generalize hkb : s.kb = kb at KG HD HG1 c7 f7 hkw ⊢
    clear h g hh hx hG1 hL0 hn0 hz0 hB0 KU HM1 hm1 hm hmt hnum
    subst hW0
    go_enter Tryz.func282, Tryz.ntmps282
    go_wp2_with (first
      | (go_at_call 294; go_must (
          refine (KG.out _ HG1.out).mono ?_
          rintro e w1 ⟨rfl, hg1, hh1⟩
          obtain ⟨c8, hkw1, l1, w2, hup1, z0, z1, d8, l2, w3, hup, hfin⟩ := HD.out w1 hg1
          have HF := @id (Hid _) (hfin hh1)
          clear hg1 hh1 hfin)))
    go_wp2
    go_region
    all_goals
      go_wp2
      go_end0
      exact ⟨rfl, HF.out⟩
end Go.Proofs.YtihbngfbcnojcaaGreat

namespace Go.Proofs.YtihbngfbcnojcaaGreat
open Go.RowKit

/-- What a transaction has written beside the pages is gone. -/
def unmade (s : Sv) (md : TabV) (t : Int) : Sv := { s with made := some ⟨md.b, md.n, md.M.del (.int .i64 t)⟩, mt := fun u => if u = t then none else s.mt u }
theorem unmade_cells {s : Sv} {md : TabV} (hm : s.made = some md) (t : Int) : (unmade s md t).cells = s.cells := by
  unfold Sv.cells
  rw [hm]
  rfl

theorem unmade_run {w : World} {s : Sv} {md : TabV} (h : Lies w s) (g : Good s) (hm : Made s md) (t : Int) (ht : IsInt t) (ty : TypeId) :
    ∃ w', (Builtin.delete_ #[231, 3] ty #[.map (some md.b), .int .i64 t]).run Tryz.prog w = .ok (.tuple #[]) w' ∧ Goes w w' s (unmade s md t) ∧ Made (unmade s md t) ⟨md.b, md.n, md.M.del (.int .i64 t)⟩ := by
  have hmd : MapOf w 3 md.b md.n md.M := h.comp .made md hm.made
  have hbm : s.blk .made = some md.b := by simp [hm.made]
  obtain ⟨w', hr, hm', htu⟩ := World.ownsMap.drop hmd (Maps.int_keyed Tryz.underlying3) Tryz.underlying231 (key_int t ht) ty
  obtain ⟨k1, k2, k3⟩ := mapTurned_facts htu
  have hB : ∀ tag k, (unmade s md t).blk tag = some k → s.blk tag = some k := fun tag k hk => by
    cases tag using Tag.elim with
    | made => rw [hbm]; exact hk
    | madeOf u => by_cases hu : u = t
                  · simp [unmade, hu] at hk
                  · simp [unmade, hu] at hk; simp; exact hk
    | _ => exact hk
  refine ⟨w', hr, ⟨h.step (fun tag => tag = .made ∨ tag = .madeOf t) ?_ ?_ ?_ ?_ ?_ (by omega), ?_, fun tag k hk => .inl (hB tag k hk), fun k _ hnt => k1 k (fun e => hnt .made (by rw [hbm, e])), k3⟩, ?_⟩
  · intro tag htg
    simp only [not_or] at htg
    cases tag using Tag.elim with
    | made => exact absurd rfl htg.1
    | madeOf u => have hu : u ≠ t := fun e => htg.2 (by rw [e]); exact ⟨by simp [unmade, hu], fun W hW y hy => by simp [unmade, hu] at hy; exact hW y hy⟩
    | kind =>
      refine ⟨rfl, fun W hW => ?_⟩
      show W.heap[s.kb]? = some (.cells (unmade s md t).cells s.ty (0, 0))
      rw [unmade_cells hm.made]; exact hW
    | _ => exact ⟨rfl, fun W hW => hW⟩
  · intro tag k htg hk
    simp only [not_or] at htg
    exact k1 k (fun e => htg.1 (h.apart tag .made k hk (by rw [hbm, e])))
  · rintro tag (rfl | rfl)
    · intro y hy
      simp [unmade] at hy
      subst hy
      exact hm'
    · intro y hy; simp [unmade] at hy
  · intro tag k _ hk
    exact .inl (hB tag k hk)
  · intro a b k _ _ h1 h2
    exact h.apart a b k (hB a k h1) (hB b k h2)
  · exact { dsz := g.dsz, dv := g.dv, fuse := g.fuse, ok := g.ok, wn := g.wn, ln := g.ln, db := g.db, wb := g.wb, have' := g.have', lack := g.lack, room := g.room, load := g.load, rise := g.rise, st := g.st, ct := g.ct, ac := g.ac, mon := g.mon, mcn := g.mcn, isOpen := g.isOpen, notOpen := g.notOpen }
  · refine ⟨rfl, fun u m hu zd => ?_, fun u hu zd => ?_, fun u m hu => ?_, hm.num⟩
    · by_cases hut : u = t
      · subst hut; simp [unmade] at hu
      · simp [unmade, hut] at hu
        exact (Maps.atKey_del_other (by simpa using hut) zd).trans (hm.have' u m hu zd)
    · by_cases hut : u = t
      · subst hut; exact Maps.atKey_del_same zd
      · simp [unmade, hut] at hu
        exact (Maps.atKey_del_other (by simpa using hut) zd).trans (hm.lack u hu zd)
    · by_cases hut : u = t
      · subst hut; simp [unmade] at hu
      · simp [unmade, hut] at hu
        exact hm.cells u m hu

set_option maxRecDepth 100000 in
set_option maxHeartbeats 1000000 in
/-- (*noSteal).end. -/
theorem noStealEnd_step {w : World} {s : Sv} {q : Nat} {md : TabV} (h : Lies w s) (g : Good s) (hh : Held s q) (hm : Made s md) (t : Int) (ht : IsInt t) :
    Calls Tryz.prog 284 #[.pointer (some ⟨s.kb, 0, none⟩), .int .i64 t] w fun e w' => e = .returned (.tuple #[]) ∧ Goes w w' s (ended (unmade s md t) t) ∧ Held (ended (unmade s md t) t) q ∧ Made (ended (unmade s md t) t) ⟨md.b, md.n, md.M.del (.int .i64 t)⟩ := by
  have c8 := made_cell h hm
  obtain ⟨w1, hdel1, hg1, hm1⟩ := unmade_run h g hm t ht 0
  have c5 : w1.cell? ⟨s.kb, 5, none⟩ = some (.map (some s.mo.b)) := cell_at (hg1.lies.comp .kind) (cells_of _ (j := 5) (by omega) rfl)
  obtain ⟨w2, hdel2, hg2⟩ := end_run hg1.lies hg1.good t ht 0
  have hdel3 : (Builtin.delete_ #[227, 3] 0 #[.map (some s.mo.b), .int .i64 t]).run Tryz.prog w1 = .ok (.tuple #[]) w2 := hdel2
  have hh1 : Held (unmade s md t) q := fun u y hy => hh u y hy
  have HF : Hid (Goes w w2 s (ended (unmade s md t) t) ∧ Held (ended (unmade s md t) t) q ∧ Made (ended (unmade s md t) t) ⟨md.b, md.n, md.M.del (.int .i64 t)⟩) := ⟨hg1.trans hg2, ended_held hh1 t, ⟨hm1.made, hm1.have', hm1.lack, hm1.cells, hm1.num⟩⟩
  clear h g hh hm hg1 hm1 hg2 hdel2 hh1
  go_enter Tryz.func284, Tryz.ntmps284
  go_wp2
  go_end0
  exact ⟨rfl, HF.out⟩

set_option maxHeartbeats 1000000 in
/-- (*noSteal).Abort. -/
theorem noStealAbort_step {w : World} {s : Sv} {q : Nat} {md : TabV} (h : Lies w s) (g : Good s) (hh : Held s q) (hm : Made s md) (t : Int) (ht : IsInt t) :
    Calls Tryz.prog 272 #[.pointer (some ⟨s.kb, 0, none⟩), .int .i64 t] w fun e w' => e = .returned (.tuple #[]) ∧ Goes w w' s (ended (unmade s md t) t) ∧ Held (ended (unmade s md t) t) q ∧ Made (ended (unmade s md t) t) ⟨md.b, md.n, md.M.del (.int .i64 t)⟩ := by
  have KE := noStealEnd_step h g hh hm t ht
  have HKE := @id (Hid (Calls _ _ _ w _)) KE
  generalize hP : (fun w' => Goes w w' s (ended (unmade s md t) t) ∧ Held (ended (unmade s md t) t) q ∧ Made (ended (unmade s md t) t) ⟨md.b, md.n, md.M.del (.int .i64 t)⟩) = P
  have HKE2 : Hid (Calls Tryz.prog 284 #[.pointer (some ⟨s.kb, 0, none⟩), .int .i64 t] w fun e w' => e = .returned (.tuple #[]) ∧ P w') := by rw [← hP]; exact HKE.out
  show Calls Tryz.prog 272 #[.pointer (some ⟨s.kb, 0, none⟩), .int .i64 t] w fun e w' => e = .returned (.tuple #[]) ∧ (fun w' => Goes w w' s (ended (unmade s md t) t) ∧ Held (ended (unmade s md t) t) q ∧ Made (ended (unmade s md t) t) ⟨md.b, md.n, md.M.del (.int .i64 t)⟩) w'
  rw [hP]
  clear h g hh hm KE HKE hP
  go_enter Tryz.func272, Tryz.ntmps272
  go_wp2_with (first
    | (go_at_call 284; go_must (
        refine HKE2.out.mono ?_
        rintro e w1 ⟨rfl, hp⟩
        have HP : Hid (P w1) := hp
        clear hp)))
  go_end0
  exact ⟨rfl, HP.out⟩
end Go.Proofs.YtihbngfbcnojcaaGreat

namespace Go.Proofs.YtihbngfbcnojcaaGreat
open Go.RowKit

theorem Goes.of_below {w w' : World} {s : Sv} (h : Lies w s) (g : Good s) (hb : Below w.heap.size w w') : Goes w w' s s := ⟨h.below hb, g, Grown.refl _ _, fun q hq _ => hb.block q hq, hb.mono (Nat.zero_le _)⟩

/-- How the others hold a key at most. -/
def Most (s : Sv) (t : Int) (key : ByteArray) (m : Int) : Prop := 0 ≤ m ∧ m ≤ 2 ∧ (∀ u x, s.tx u = some x → u ≠ t → holdOf x.H key ≤ m) ∧ (m = 0 ∨ ∃ u x, s.tx u = some x ∧ u ≠ t ∧ holdOf x.H key = m)
theorem open_has {s : Sv} (g : Good s) (u : Int) : Maps.has s.mo.M (.int .i64 u) = (s.tx u).isSome := by
  cases hx : s.tx u with
  | some x => exact Maps.has_true_of_atKey (g.isOpen u x hx)
  | none => exact Maps.has_false_of_atKey (g.notOpen u hx)
theorem most_of {s : Sv} (g : Good s) {t : Int} {key : ByteArray} {m : Int} (h : MostIs s.mo.M (s.holds key) t (fun _ => false) m) : Most s t key m := by
  obtain ⟨h1, h2, h3, h4⟩ := h
  refine ⟨h1, h2, fun u x hx hu => ?_, ?_⟩
  · have := h3 u (by rw [open_has g, hx]; rfl) rfl hu
    simp only [Sv.holds, hx] at this
    exact this
  · rcases h4 with h4 | ⟨u, h4, h5, h6⟩
    · exact .inl h4
    · rw [open_has g] at h4
      obtain ⟨x, hx⟩ := Option.isSome_iff_exists.1 h4
      simp only [Sv.holds, hx] at h6
      exact .inr ⟨u, x, hx, h5, h6⟩

theorem open_or {s : Sv} (g : Good s) (t : Int) : ((s.tx t).isSome = true ∧ ∃ tb, OpenIs s.mo.M t tb) ∨ ((s.tx t).isSome = false ∧ NotOpen s.mo.M t) := by
  cases hx : s.tx t with
  | some x => exact .inl ⟨rfl, x.tb, g.isOpen t x hx⟩
  | none => exact .inr ⟨rfl, g.notOpen t hx⟩

/-- MayEnd of a live store. -/
theorem mayEnd_step {w : World} {s : Sv} (h : Lies w s) (g : Good s) (t : Int) (ht : IsInt t) :
    Calls Tryz.prog 278 #[.pointer (some ⟨s.kb, 0, none⟩), .int .i64 t] w fun e w' => e = .returned (.int .i64 (if (s.tx t).isSome then 0 else 5)) ∧ w = w' := by
  have c5 : w.cell? ⟨s.kb, 5, none⟩ = some (.map (some s.mo.b)) := cell_at (h.comp .kind) (cells_of s (by omega) rfl)
  rcases open_or g t with ⟨h1, tb, h2⟩ | ⟨h1, h2⟩
  · rw [h1]
    exact mayEnd_yes s.kb s.mo.b s.mo.n tb s.mo.M t w ht c5 (h.comp .mo) h2
  · rw [h1]
    exact mayEnd_no s.kb s.mo.b s.mo.n s.mo.M t w ht c5 (h.comp .mo) h2

/-- MayRead of a live store. -/
theorem mayRead_step {w : World} {s : Sv} {q : Nat} (h : Lies w s) (g : Good s) (hh : Held s q) (t : Int) (ht : IsInt t) (key : ByteArray) (hks : key.size ≤ 140737488355328) :
    Calls Tryz.prog 279 #[.pointer (some ⟨s.kb, 0, none⟩), .int .i64 t, .string key] w fun e w' => ∃ c, e = .returned (.int .i64 c) ∧ Goes w w' s s ∧
      ((nameErr (s.tx t).isSome key ≠ 0 ∧ c = nameErr (s.tx t).isSome key) ∨ (nameErr (s.tx t).isSome key = 0 ∧ ∃ m, Most s t key m ∧ c = if m = 2 then 8 else 0)) := by
  have c5 : w.cell? ⟨s.kb, 5, none⟩ = some (.map (some s.mo.b)) := cell_at (h.comp .kind) (cells_of s (by omega) rfl)
  refine (mayRead_any s.kb s.mo.b s.mo.n s.mo.M t key (s.tx t).isSome (s.holds key) w ht hks c5 (h.comp .mo) (open_or g t) (fun _ => holds_of h g hh key)).mono ?_
  rintro e w' ⟨m, h1, rfl, h2⟩
  refine ⟨_, rfl, Goes.of_below h g h2, ?_⟩
  by_cases hz : nameErr (s.tx t).isSome key = 0
  · exact .inr ⟨hz, m, most_of g (h1 hz), by rw [if_pos hz]⟩
  · exact .inl ⟨hz, by rw [if_neg hz]⟩

/-- MayWrite of a live store. -/
theorem mayWrite_step {w : World} {s : Sv} {q : Nat} (h : Lies w s) (g : Good s) (hh : Held s q) (hq : q ≤ 100000) (t : Int) (ht : IsInt t) (key : ByteArray) (hks : key.size ≤ 140737488355328) (is : Bool) (val : ByteArray) (hvs : val.size ≤ 140737488355328) :
    Calls Tryz.prog 280 #[.pointer (some ⟨s.kb, 0, none⟩), .int .i64 t, .string key, .agg #[.bool is, .string val]] w fun e w' => ∃ c s', e = .returned (.int .i64 c) ∧ Paged s s' ∧ Goes w w' s s' ∧
      ((nameErr (s.tx t).isSome key ≠ 0 ∧ c = nameErr (s.tx t).isSome key) ∨ (nameErr (s.tx t).isSome key = 0 ∧ 12 < val.size ∧ c = 7) ∨
       (nameErr (s.tx t).isSome key = 0 ∧ val.size ≤ 12 ∧ ∃ m, Most s t key m ∧ ((1 ≤ m ∧ c = 8) ∨ (m = 0 ∧ 120 ≤ s.acts ∧ c = 10) ∨ (m = 0 ∧ s.acts < 120 ∧ ∃ Kd, AllKept (s.cont (bucket key)) s.mo.M s.tabs (bucket key) Kd ∧ c = if (Maps.has Kd (lit key) || decide (Maps.size Kd < 4)) = true then 0 else 10)))) := by
  have c5 : w.cell? ⟨s.kb, 5, none⟩ = some (.map (some s.mo.b)) := cell_at (h.comp .kind) (cells_of s (by omega) rfl)
  have c7 : w.cell? ⟨s.kb, 7, none⟩ = some (.int .i64 (s.acts : Int)) := cell_at (h.comp .kind) (cells_of s (by omega) rfl)
  refine (mayWrite_any s.kb s.mo.b s.mo.n s.mo.M t key val is (s.acts : Int) (s.tx t).isSome (s.holds key) (fun w0 r w' => ∃ Kd, r = (Maps.has Kd (lit key) || decide (Maps.size Kd < 4)) ∧ AllKept (s.cont (bucket key)) s.mo.M s.tabs (bucket key) Kd ∧ ∃ s', Paged s s' ∧ Goes w0 w' s s') w ht hks hvs (h.lt .kind _ rfl) c5 c7 (h.comp .mo) (open_or g t) (fun _ => holds_of h g hh key) ?_).mono ?_
  · intro hk8 w0 hw0
    refine (hasRoom_step (h.below hw0) g hh hq key hk8).mono ?_
    rintro e w' ⟨Kd, rfl, h1, h2⟩
    exact ⟨_, rfl, Kd, rfl, h1, h2⟩
  · rintro e w' (⟨h1, rfl, h2⟩ | ⟨h1, h2, rfl, h3⟩ | ⟨h1, h2, m, h3, h4⟩)
    · exact ⟨_, s, rfl, Paged.refl s, Goes.of_below h g h2, .inl ⟨h1, rfl⟩⟩
    · exact ⟨_, s, rfl, Paged.refl s, Goes.of_below h g h3, .inr (.inl ⟨h1, h2, rfl⟩)⟩
    · have hM := most_of g h3
      rcases h4 with ⟨h5, rfl, h6⟩ | ⟨h5, h6, rfl, h7⟩ | ⟨h5, h6, w0, r, h7, rfl, Kd, rfl, h8, s', h9, h10⟩
      · exact ⟨_, s, rfl, Paged.refl s, Goes.of_below h g h6, .inr (.inr ⟨h1, h2, m, hM, .inl ⟨h5, rfl⟩⟩)⟩
      · exact ⟨_, s, rfl, Paged.refl s, Goes.of_below h g h7, .inr (.inr ⟨h1, h2, m, hM, .inr (.inl ⟨h5, by omega, rfl⟩)⟩)⟩
      · exact ⟨_, s', rfl, h9, (Goes.of_below h g h7).trans h10, .inr (.inr ⟨h1, h2, m, hM, .inr (.inr ⟨h5, by omega, Kd, h8, rfl⟩)⟩)⟩
end Go.Proofs.YtihbngfbcnojcaaGreat

namespace Go.Proofs.YtihbngfbcnojcaaGreat
open Go.RowKit

theorem TabOk.empty : TabOk (.map []) := fun key => .inl fun zd => Maps.atKey_of_not_has (by simp [Maps.has_eq]) zd

/-- One action and one transaction more are counted. -/
def counted (s : Sv) : Sv := { s with acts := s.acts + 1, begun := s.begun + 1 }
theorem counted_cells (s : Sv) : (counted s).cells = (s.cells.setIfInBounds 7 (.int .i64 ((s.acts : Int) + 1))).setIfInBounds 6 (.int .i64 ((s.begun : Int) + 1)) := by
  unfold Sv.cells
  have : (counted s).made = s.made := rfl
  rw [this]
  cases s.made <;> simp [counted]
theorem count_step {w : World} {s : Sv} (h : Lies w s) (g : Good s) (hac : s.acts < 120) : Goes w ((w.setCell ⟨s.kb, 7, none⟩ (.int .i64 ((s.acts : Int) + 1))).setCell ⟨s.kb, 6, none⟩ (.int .i64 ((s.begun : Int) + 1))) s (counted s) := by
  have hk : w.heap[s.kb]? = some (.cells s.cells s.ty (0, 0)) := h.comp .kind
  have ho : ∀ k, k ≠ s.kb → ((w.setCell ⟨s.kb, 7, none⟩ (.int .i64 ((s.acts : Int) + 1))).setCell ⟨s.kb, 6, none⟩ (.int .i64 ((s.begun : Int) + 1))).heap[k]? = w.heap[k]? := fun k hk' => (Below.heap_setCell _ _ _ _ hk').trans (Below.heap_setCell _ _ _ _ hk')
  refine ⟨h.step (fun tag => tag = .kind) ?_ ?_ ?_ ?_ ?_ ?_, ?_, fun tag k hk' => .inl hk', fun k _ hnt => ho k (fun e => hnt .kind (by rw [e]; rfl)), ((Below.refl _ _).setCell (p := ⟨s.kb, 7, none⟩) (Nat.zero_le _) _).setCell (p := ⟨s.kb, 6, none⟩) (Nat.zero_le _) _⟩
  · intro tag ht
    refine ⟨rfl, fun W hW => ?_⟩
    cases tag using Tag.elim with
    | kind => exact absurd rfl ht
    | _ => exact hW
  · intro tag k ht hk'
    exact ho k (fun e => ht (h.apart tag .kind k hk' (by rw [e]; rfl)))
  · rintro tag rfl
    show ((w.setCell ⟨s.kb, 7, none⟩ (.int .i64 ((s.acts : Int) + 1))).setCell ⟨s.kb, 6, none⟩ (.int .i64 ((s.begun : Int) + 1))).heap[s.kb]? = some (.cells (counted s).cells s.ty (0, 0))
    rw [counted_cells]
    exact setCell_at _ s.kb 6 _ _ s.ty (setCell_at w s.kb 7 _ _ s.ty hk)
  · intro tag k _ hk'
    exact .inl hk'
  · intro a b k ha hb _ _
    rw [ha, hb]
  · simp
  · have := g.ct
    have := g.mon
    exact { dsz := g.dsz, dv := g.dv, fuse := g.fuse, ok := g.ok, wn := g.wn, ln := g.ln, db := g.db, wb := g.wb, have' := g.have', lack := g.lack, room := g.room, load := g.load, rise := g.rise, st := g.st, ct := by show 0 ≤ s.count ∧ s.count ≤ 100 + s.len + 1000 * ((s.acts + 1 : Nat) : Int); omega, ac := by show s.acts + 1 ≤ 120; omega, mon := by show s.mo.n ≤ s.acts + 1; omega, mcn := g.mcn, isOpen := g.isOpen, notOpen := g.notOpen }

/-- A transaction is open. -/
def opened (s : Sv) (t : Int) (hb tb : Nat) : Sv := { s with mo := ⟨s.mo.b, s.mo.n + 1, s.mo.M.put (.int .i64 t) (.held (.pointer (some ⟨tb, 0, none⟩)))⟩, tx := fun u => if u = t then some ⟨tb, hb, 0, 0, .map []⟩ else s.tx u }

theorem open_run {W : World} {s : Sv} {q : Nat} (h : Lies W s) (g : Good s) (hh : Held s q) (t : Int) (ht : IsInt t) (hmo : s.mo.n < s.acts) :
    ∃ w', (Instr.mapUpdate 227 (.map (some s.mo.b)) (.int .i64 t) (.pointer (some ⟨W.heap.size + 1, 0, none⟩))).run Tryz.prog ((W.alloc (.map #[] 0)).alloc (.cells #[.int .i64 0, .map (some W.heap.size)] 359)).drew = .ok () w' ∧ (s.tx t = none → Goes W w' s (opened s t W.heap.size (W.heap.size + 1)) ∧ Held (opened s t W.heap.size (W.heap.size + 1)) q) ∧ (∀ k, k < W.heap.size → k ≠ s.mo.b → w'.heap[k]? = W.heap[k]?) := by
  have hac := g.ac
  have hmd : MapOf W 3 s.mo.b s.mo.n s.mo.M := h.comp .mo
  have hmb := h.lt .mo _ rfl
  have hB0 : Below W.heap.size W ((W.alloc (.map #[] 0)).alloc (.cells #[.int .i64 0, .map (some W.heap.size)] 359)).drew := ((((Below.refl _ W).alloc (Nat.le_refl _) _).alloc (by simp) _)).drew
  obtain ⟨w', hr, hm', htu⟩ := World.ownsMap.store (val := .pointer (some ⟨W.heap.size + 1, 0, none⟩)) (hmd.below hB0) (Maps.int_keyed Tryz.underlying3) Tryz.underlying227 (by unfold maxLen; omega) (key_int t ht) rfl
  obtain ⟨k1, k2, k3⟩ := mapTurned_facts htu
  have hz : w'.heap.size = W.heap.size + 2 := by
    rw [k2]
    show ((W.alloc (.map #[] 0)).alloc (.cells #[.int .i64 0, .map (some W.heap.size)] 359)).heap.size = _
    simp
  have ho : ∀ k, k < W.heap.size → k ≠ s.mo.b → w'.heap[k]? = W.heap[k]? := fun k h1 h2 => (k1 k h2).trans (hB0.block k h1)
  have hnew1 : MapOf w' 9 W.heap.size 0 (.map []) := MapOf.kept (World.ownsMap_made W Tryz.prog 9 asIs) ((k1 _ (by omega)).trans (by
    show ((W.alloc (.map #[] 0)).alloc (.cells #[.int .i64 0, .map (some W.heap.size)] 359)).heap[W.heap.size]? = _
    exact Below.heap_alloc _ _ _ (by simp)))
  have hnew2 : TxIs w' (W.heap.size + 1) ((0 : Nat) : Int) W.heap.size := (k1 _ (by omega)).trans (by
    show ((W.alloc (.map #[] 0)).alloc (.cells #[.int .i64 0, .map (some W.heap.size)] 359)).heap[W.heap.size + 1]? = _
    have := heap_alloc_new (W.alloc (.map #[] 0)) (.cells #[.int .i64 0, .map (some W.heap.size)] 359)
    simpa using this)
  refine ⟨w', hr, fun htx => ?_, ho⟩
  have hB : ∀ tag, tag ≠ .tx t → tag ≠ .held t → (opened s t W.heap.size (W.heap.size + 1)).blk tag = s.blk tag := fun tag h1 h2 => by
    cases tag using Tag.elim with
    | tx u => have hu : u ≠ t := fun e => h1 (by rw [e]); simp [opened, hu]
    | held u => have hu : u ≠ t := fun e => h2 (by rw [e]); simp [opened, hu]
    | _ => rfl
  have hBt : (opened s t W.heap.size (W.heap.size + 1)).blk (.tx t) = some (W.heap.size + 1) := by simp [opened]
  have hBh : (opened s t W.heap.size (W.heap.size + 1)).blk (.held t) = some W.heap.size := by simp [opened]
  have hgr : ∀ tag k, (opened s t W.heap.size (W.heap.size + 1)).blk tag = some k → s.blk tag = some k ∨ (W.heap.size ≤ k ∧ k < w'.heap.size) := fun tag k hk => by
    by_cases h1 : tag = .tx t
    · subst h1; rw [hBt] at hk; simp at hk; exact .inr (by omega)
    · by_cases h2 : tag = .held t
      · subst h2; rw [hBh] at hk; simp at hk; exact .inr (by omega)
      · rw [hB tag h1 h2] at hk; exact .inl hk
  refine ⟨⟨h.step (fun tag => tag = .mo ∨ tag = .tx t ∨ tag = .held t) ?_ ?_ ?_ (fun tag k _ hk => hgr tag k hk) ?_ (by omega), ?_, fun tag k hk => (hgr tag k hk).imp_right (·.1), fun k hk hnt => ho k hk (fun e => hnt .mo (by rw [e]; rfl)), (hB0.mono (Nat.zero_le _)).trans k3⟩, ?_⟩
  · intro tag htg
    simp only [not_or] at htg
    obtain ⟨t1, t2, t3⟩ := htg
    refine ⟨hB tag t2 t3, fun W' hW => ?_⟩
    cases tag using Tag.elim with
    | mo => exact absurd rfl t1
    | tx u => have hu : u ≠ t := fun e => t2 (by rw [e]); intro y hy; simp [opened, hu] at hy; exact hW y hy
    | held u => have hu : u ≠ t := fun e => t3 (by rw [e]); intro y hy; simp [opened, hu] at hy; exact hW y hy
    | _ => exact hW
  · intro tag k htg hk
    simp only [not_or] at htg
    exact ho k (h.lt tag k hk) (fun e => htg.1 (h.apart tag .mo k hk (by rw [e]; rfl)))
  · rintro tag (rfl | rfl | rfl)
    · exact hm'
    · intro y hy
      simp [opened] at hy
      subst hy
      exact hnew2
    · intro y hy
      simp [opened] at hy
      subst hy
      exact hnew1
  · rintro a b k (rfl | rfl | rfl) (rfl | rfl | rfl) h1 h2
    · rfl
    · rw [hBt] at h2; simp [opened] at h1 h2; omega
    · rw [hBh] at h2; simp [opened] at h1 h2; omega
    · rw [hBt] at h1; simp [opened] at h1 h2; omega
    · rfl
    · rw [hBt] at h1; rw [hBh] at h2; simp at h1 h2; omega
    · rw [hBh] at h1; simp [opened] at h1 h2; omega
    · rw [hBh] at h1; rw [hBt] at h2; simp at h1 h2; omega
    · rfl
  · have hM := World.ownsMap.isMap hmd
    exact { dsz := g.dsz, dv := g.dv, fuse := g.fuse, ok := g.ok, wn := g.wn, ln := g.ln, db := g.db, wb := g.wb, have' := g.have', lack := g.lack, room := g.room, load := g.load, rise := g.rise, st := g.st, ct := g.ct, ac := g.ac, mon := hmo, mcn := g.mcn
            isOpen := fun u y hy => by
              by_cases hu : u = t
              · subst hu
                simp [opened] at hy
                subst hy
                exact fun zd => Maps.atKey_put_same hM (by simp [WideAt.IsKeyLit]) _ _
              · simp [opened, hu] at hy
                exact fun zd => (Maps.atKey_put_other (by simpa using hu) _ _).trans (g.isOpen u y hy zd)
            notOpen := fun u hy => by
              by_cases hu : u = t
              · subst hu; simp [opened] at hy
              · simp [opened, hu] at hy
                exact fun zd => (Maps.atKey_put_other (by simpa using hu) _ _).trans (g.notOpen u hy zd) }
  · intro u y hy
    by_cases hu : u = t
    · subst hu
      simp [opened] at hy
      subst hy
      exact ⟨Nat.zero_le _, TabOk.empty, Maps.isMap_empty⟩
    · simp [opened, hu] at hy
      exact hh u y hy
end Go.Proofs.YtihbngfbcnojcaaGreat

namespace Go.Proofs.YtihbngfbcnojcaaGreat
open Go.RowKit

/-- What Begin answers and leaves. -/
def Began (w : World) (s : Sv) (q : Nat) (e : Ending) (w' : World) : Prop :=
  (4 ≤ Maps.size s.mo.M ∧ e = .returned (.tuple #[.int .i64 0, .int .i64 9]) ∧ w = w') ∨ (Maps.size s.mo.M < 4 ∧ 120 ≤ s.acts ∧ e = .returned (.tuple #[.int .i64 0, .int .i64 10]) ∧ w = w') ∨
  (Maps.size s.mo.M < 4 ∧ s.acts < 120 ∧ e = .returned (.tuple #[.int .i64 ((s.begun : Int) + 1), .int .i64 0]) ∧ ∃ hb tb, Goes w w' s (opened (counted s) ((s.begun : Int) + 1) hb tb) ∧ Held (opened (counted s) ((s.begun : Int) + 1) hb tb) q)

set_option maxRecDepth 100000 in
set_option maxHeartbeats 2000000 in
/-- (*core).Begin. -/
theorem coreBegin_step {w : World} {s : Sv} {q : Nat} (h : Lies w s) (g : Good s) (hh : Held s q) (hbg : s.begun ≤ 1000) (htx : s.tx ((s.begun : Int) + 1) = none) :
    Calls Tryz.prog 273 #[.pointer (some ⟨s.kb, 0, none⟩)] w (Began w s q) := by
  have c5 : w.cell? ⟨s.kb, 5, none⟩ = some (.map (some s.mo.b)) := cell_at (h.comp .kind) (cells_of s (by omega) rfl)
  have c6 : w.cell? ⟨s.kb, 6, none⟩ = some (.int .i64 (s.begun : Int)) := cell_at (h.comp .kind) (cells_of s (by omega) rfl)
  have c7 : w.cell? ⟨s.kb, 7, none⟩ = some (.int .i64 (s.acts : Int)) := cell_at (h.comp .kind) (cells_of s (by omega) rfl)
  have f6 : w.frozen? ⟨s.kb, 6, none⟩ = false := frozen_at 6 (h.comp .kind)
  have f7 : w.frozen? ⟨s.kb, 7, none⟩ = false := frozen_at 7 (h.comp .kind)
  have hmo : MapOf w 3 s.mo.b s.mo.n s.mo.M := h.comp .mo
  have hlen := World.ownsMap.len hmo Tryz.underlying227 3
  have KS := spent_any s.kb (s.acts : Int) w c7
  have hac := g.ac
  by_cases h4 : 4 ≤ Maps.size s.mo.M
  · have h4' : (4 : Int) ≤ (Maps.size s.mo.M : Int) := by omega
    have HE : Hid (Began w s q (.returned (.tuple #[.int .i64 0, .int .i64 9])) w) := .inl ⟨h4, rfl, rfl⟩
    generalize Began w s q = B at HE ⊢
    generalize (Maps.size s.mo.M : Int) = sz at hlen h4'
    clear h g hh hmo KS h4
    go_enter Tryz.func273, Tryz.ntmps273
    go_wp2
    exact HE.out
  · have h4' : ¬ (4 : Int) ≤ (Maps.size s.mo.M : Int) := by omega
    by_cases ha : 120 ≤ s.acts
    · have ha' : (120 : Int) ≤ (s.acts : Int) := by omega
      have HE : Hid (Began w s q (.returned (.tuple #[.int .i64 0, .int .i64 10])) w) := .inr (.inl ⟨by omega, ha, rfl, rfl⟩)
      generalize Began w s q = B at HE ⊢
      generalize (Maps.size s.mo.M : Int) = sz at hlen h4'
      clear h g hh hmo
      go_enter Tryz.func273, Tryz.ntmps273
      go_wp2_with (first
        | (go_at_call 285; refine KS.mono ?_; rintro e w' ⟨rfl, rfl⟩))
      exact HE.out
    · have ha' : ¬ (120 : Int) ≤ (s.acts : Int) := by omega
      have hG1 := count_step h g (by omega)
      have hw7 : wrap64 ((s.acts : Int) + 1) = (s.acts : Int) + 1 := by simp only [wrap64]; omega
      have hw6 : wrap64 ((s.begun : Int) + 1) = (s.begun : Int) + 1 := by simp only [wrap64]; omega
      have hmon := g.mon
      have hti : IsInt ((s.begun : Int) + 1) := ⟨by omega, by omega⟩
      have hkm : s.kb ≠ s.mo.b := h.ne (a := .kind) (b := .mo) rfl rfl (by simp)
      have hkw : s.kb < w.heap.size := h.lt .kind _ rfl
      have HD : Hid (∀ W, W = ((w.setCell ⟨s.kb, 7, none⟩ (.int .i64 ((s.acts : Int) + 1))).setCell ⟨s.kb, 6, none⟩ (.int .i64 ((s.begun : Int) + 1))) → W.cell? ⟨s.kb, 5, none⟩ = some (.map (some s.mo.b)) ∧ W.cell? ⟨s.kb, 6, none⟩ = some (.int .i64 ((s.begun : Int) + 1)) ∧ s.kb < W.heap.size ∧
          ∃ w', (Instr.mapUpdate 227 (.map (some s.mo.b)) (.int .i64 ((s.begun : Int) + 1)) (.pointer (some ⟨W.heap.size + 1, 0, none⟩))).run Tryz.prog ((W.alloc (.map #[] 0)).alloc (.cells #[.int .i64 0, .map (some W.heap.size)] 359)).drew = .ok () w' ∧ w'.cell? ⟨s.kb, 6, none⟩ = some (.int .i64 ((s.begun : Int) + 1)) ∧ Began w s q (.returned (.tuple #[.int .i64 ((s.begun : Int) + 1), .int .i64 0])) w') := by
        intro W hW
        rw [← hW] at hG1
        have d6 : W.cell? ⟨s.kb, 6, none⟩ = some (.int .i64 ((s.begun : Int) + 1)) := cell_at (hG1.lies.comp .kind) (cells_of (counted s) (j := 6) (by omega) (by simp [counted]))
        have hW1 : s.kb < W.heap.size := hG1.lies.lt .kind _ rfl
        obtain ⟨w', b1, b2, b3⟩ := open_run (q := q) hG1.lies hG1.good (fun u y hy => hh u y hy) ((s.begun : Int) + 1) hti (by show s.mo.n < s.acts + 1; omega)
        obtain ⟨b4, b5⟩ := b2 htx
        exact ⟨cell_at (hG1.lies.comp .kind) (cells_of (counted s) (j := 5) (by omega) rfl), d6, hW1, w', b1, (World.cell?_of_block (b3 s.kb hW1 hkm)).trans d6, .inr (.inr ⟨by omega, by omega, rfl, _, _, hG1.trans b4, b5⟩)⟩
      have hmm := @run_makeMap Tryz.prog
      generalize Began w s q = B at HD ⊢
      generalize (Maps.size s.mo.M : Int) = sz at hlen h4'
      generalize (s.acts : Int) = ac at *
      generalize (s.begun : Int) = bg at *
      clear h g hh hmo hG1 hmon
      go_enter Tryz.func273, Tryz.ntmps273
      go_wp2_with (first
        | (go_at_call 285; refine KS.mono ?_; rintro e w' ⟨rfl, rfl⟩))
      obtain ⟨W, hW⟩ : ∃ W, W = ((w.setCell ⟨s.kb, 7, none⟩ (.int .i64 (ac + 1))).setCell ⟨s.kb, 6, none⟩ (.int .i64 (bg + 1))) := ⟨_, rfl⟩
      obtain ⟨d5, d6, hkW, w2, hup, e6, hfin⟩ := HD.out W hW
      rw [← hW]
      have HF := @id (Hid _) hfin
      clear hW hfin c5 c6 c7 f6 f7 hlen KS
      go_region
      go_wp2
      exact HF.out
end Go.Proofs.YtihbngfbcnojcaaGreat

namespace Go.Proofs.YtihbngfbcnojcaaGreat
open Go.RowKit

set_option maxHeartbeats 400000 in
theorem newPool_any (p : Option Addr) (w : World) :
    Calls Tryz.prog 77 #[.pointer p] w fun e w' => e = .returned (.agg #[.pointer p, .map (some (w.heap.size + 1)), .map (some (w.heap.size + 1 + 1))]) ∧
      ((w.alloc (.cells #[.pointer p, .map (some (w.heap.size + 1)), .map (some (w.heap.size + 1 + 1))] 130)).alloc (.map #[] 0)).alloc (.map #[] 0) = w' := by
  have hmm := @run_makeMap Tryz.prog
  go_enter Tryz.func77, Tryz.ntmps77
  go_wp2
  exact bodyPost_ret (v := .agg #[.pointer p, .map (some (w.heap.size + 1)), .map (some (w.heap.size + 1 + 1))]) (by simp [results, Tryz.results77, go_sem]) rfl ⟨rfl, rfl⟩

set_option maxHeartbeats 400000 in
theorem newCore_any (p : Option Addr) (w : World) :
    Calls Tryz.prog 147 #[.pointer p] w fun e w' => e = .returned (.agg #[.pointer p, .int .i64 0, .pointer p, .map (some (w.heap.size + 1 + 1)),
        .map (some (w.heap.size + 1 + 1 + 1)), .map (some (w.heap.size + 1 + 1 + 1 + 1)), .int .i64 0, .int .i64 0]) ∧
      Below w.heap.size w w' ∧ w'.heap.size = w.heap.size + 5 ∧ w'.heap[w.heap.size + 1 + 1 + 1 + 1]? = some (.map #[] 0) := by
  have hmm := @run_makeMap Tryz.prog
  go_enter Tryz.func147, Tryz.ntmps147
  go_wp2_with (first | (go_at_call 77; refine (newPool_any _ _).mono ?_; rintro e w' ⟨rfl, rfl⟩))
  refine bodyPost_ret (v := .agg #[.pointer p, .int .i64 0, .pointer p, .map (some (w.heap.size + 1 + 1)),
        .map (some (w.heap.size + 1 + 1 + 1)), .map (some (w.heap.size + 1 + 1 + 1 + 1)), .int .i64 0, .int .i64 0]) (by simp [results, Tryz.results147, go_sem]) rfl ⟨rfl, ?_, ?_, ?_⟩
  · exact (((((Below.refl _ _).alloc (Nat.le_refl _) _).alloc (by simp) _).alloc (by simp; omega) _).alloc (by simp; omega) _).alloc (by simp; omega) _
  · simp
  · show (Array.push _ _)[_]? = _
    rw [Array.getElem?_push, if_pos (by simp)]

end Go.Proofs.YtihbngfbcnojcaaGreat
