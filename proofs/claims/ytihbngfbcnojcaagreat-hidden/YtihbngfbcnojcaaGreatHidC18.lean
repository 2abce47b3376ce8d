import Derived.Test.YtihbngfbcnojcaaGreatHidC17
import Derived.Deep.CutRange
namespace Go.Proofs.YtihbngfbcnojcaaGreat
open Go.RowKit

theorem Chain.len {lg : List (EntV × Int)} : ∀ {n : Nat} {l : Ups}, Chain lg n l → l.length ≤ n
  | _, [], _ => Nat.zero_le _
  | n, _ :: r, ⟨_, _, m, _, _, _, _, _, h6, h7⟩ => by have := Chain.len h7; simp only [List.length_cons]; omega
theorem undoL_snoc : ∀ (l : Ups) (f : ByteArray → Bool × ByteArray) (u : ByteArray × (Bool × ByteArray)) (key : ByteArray), undoL (l ++ [u]) f key = if key = u.1 then u.2 else undoL l f key
  | [], _, _, _ => rfl
  | _ :: r, _, u, key => undoL_snoc r _ u key

/-- The rounds over the open transactions: what was taken back so far. -/
def Unr (s : Sv) (U : Int → Ups) (B rb : Nat) (wa : World) (w2 : World) (left : Lit → Bool) (cnt nK : Nat) (K : DataW Value) : Prop :=
  w2.ranges Tryz.prog 3 asIs s.mo.b rb s.mo.n s.mo.M left cnt ∧ MapOf w2 9 B nK K ∧ CellsOk K ∧ nK + cnt * 450 ≤ 100000 ∧ Part s U (fun k => under (s.cont (bucket k)) k) left (cellOf K) ∧ (∀ q, q < wa.heap.size → q ≠ B → w2.heap[q]? = wa.heap[q]?) ∧ Below 0 wa w2

set_option maxRecDepth 100000 in
set_option maxHeartbeats 4000000 in
/-- (*steal).Committed: what is open is taken back. -/
theorem stealCommitted_any {w : World} {s : Sv} {lg : List (EntV × Int)} (h : Lies w s) (g : Good s) (hb : Buck s) (hl : Logd s lg) (U : Int → Ups) (hU : ∀ t x, s.tx t = some x → Chain lg x.last (U t)) (hdis : ∀ t u x y key, s.tx t = some x → s.tx u = some y → touches (U t) key → touches (U u) key → t = u) (hint : ∀ t x, s.tx t = some x → IsInt t) :
    Calls Tryz.prog 301 #[.pointer (some ⟨s.kb, 0, none⟩)] w fun e w' => ∃ v B ps s', e = .returned v ∧ w.heap.size ≤ B ∧ NewPairs w' B s' v ps ∧ (∃ left f, Part s U (fun k => under (s.cont (bucket k)) k) left f ∧ (∀ kl, left kl = false) ∧ ∀ key, under ps key = norm (f key)) ∧ Paged s s' ∧ Goes w w' s s' := by
  have hbd : Below w.heap.size w w.drew := (Below.refl _ w).drew
  have KC : Hid (Calls Tryz.prog 79 #[.pointer (some ⟨s.kb, 2, none⟩)] w.drew fun e w' => e = .returned (.map (some w.heap.size)) ∧ ∃ n M s', CellsAt w' w.heap.size n M (colTo s 8 0) ∧ Paged s s' ∧ Goes w w' s s' ∧ ∀ tag, s'.blk tag ≠ some w.heap.size) := by
    refine (cells_step (h.below hbd) g).mono ?_
    rintro e w' ⟨h1, n, M, s', h2, h3, h4, h5⟩
    exact ⟨h1, n, M, s', h2, h3, (Goes.of_below h g hbd).trans h4, h5⟩
  have KE : Hid (∀ W s', Paged s s' → Goes w W s s' → Calls Tryz.prog 290 #[.pointer (some ⟨s.kb, 0, none⟩)] W fun e w' => ∃ v, e = .returned v ∧ w'.ownsRow W.heap.size 152 9 v lg.length (logCells (lg.map (·.1))) ∧ Below W.heap.size W w') := fun W s' hp hg => by
    have := entries_step hg.lies hg.good (hl.paged hp)
    rw [hp.same.1] at this
    exact this
  have HLN : Hid (lg.length ≤ 400) := by have := hl.len; have := g.ln; show lg.length ≤ 400; omega
  have HFT : Hid (∀ p ∈ lg, p.1.key.size ≤ 8 ∧ p.1.old.size ≤ 12) := fun p hp => by
    obtain ⟨i, hi, rfl⟩ := List.getElem_of_mem hp
    have := (hl.at' i hi).2.2.2.1
    exact ⟨this.key, this.old⟩
  have KB : Hid (∀ W s' t x base vE, Paged s s' → Goes w W s s' → s.tx t = some x → W.ownsRow base 152 9 vE lg.length (logCells (lg.map (·.1))) → Calls Tryz.prog 305 #[.pointer (some ⟨s.kb, 0, none⟩), .int .i64 t, vE] W fun e w' => ∃ v es, e = .returned v ∧ w'.ownsRow W.heap.size 152 9 v es.length (logCells es) ∧ es.map upOf = U t ∧ (∀ e ∈ es, e.key.size ≤ 8 ∧ e.old.size ≤ 12) ∧ es.length ≤ 400 ∧ Below W.heap.size W w') := fun W s' t x base vE hp hg hx hrow => by
    have htx : s'.tx = s.tx := by obtain ⟨P, m, rfl, _⟩ := hp; rfl
    have := backward_step hg.lies hg.good t (hint t x hx) x (by rw [htx]; exact hx) base vE hrow HLN.out (U t) (hU t x hx)
    rw [hp.same.1] at this
    refine this.mono ?_
    rintro e w' ⟨v, es, h1, h2, h3, h4, h5⟩
    refine ⟨v, es, h1, h2, h3, fun e he => ?_, ?_, h5⟩
    · obtain ⟨p, hp', rfl⟩ := h4 e he
      exact HFT.out p hp'
    · have h6 := (hU t x hx).len
      have h7 := (hU t x hx).le
      have h8 := HLN.out
      rw [← h3, List.length_map] at h6
      omega
  have HMO : Hid (∀ W s', Paged s s' → Goes w W s s' → W.cell? ⟨s.kb, 5, none⟩ = some (.map (some s.mo.b)) ∧ MapOf W 3 s.mo.b s.mo.n s.mo.M) := fun W s' hp hg => by
    obtain ⟨e1, e2, _⟩ := hp.same
    have a1 : W.cell? ⟨s'.kb, 5, none⟩ = some (.map (some s'.mo.b)) := cell_at (hg.lies.comp .kind) (cells_of s' (j := 5) (by omega) rfl)
    have a2 : MapOf W 3 s'.mo.b s'.mo.n s'.mo.M := hg.lies.comp .mo
    rw [e1, e2] at a1
    rw [e2] at a2
    exact ⟨a1, a2⟩
  have HU : Hid (∀ key, under (colTo s 8 0).reverse key = under (s.cont (bucket key)) key) := colTo_under g hb
  have HN : Hid ((colTo s 8 0).length ≤ 1000) := by
    have h3 : ∀ m, m ≤ 8 → ((List.range m).flatMap s.cont).length ≤ 4 * m := fun m => by
      induction m with
      | zero => intro _; simp
      | succ m ih =>
        intro hm
        rw [List.range_succ, List.flatMap_append, List.length_append]
        have := ih (by omega)
        have := (g.rise m (by omega)).2.1
        have e1 : ([m].flatMap s.cont).length = (s.cont m).length := by simp
        omega
    have := h3 8 (by omega)
    show (colTo s 8 0).length ≤ 1000
    unfold colTo
    simp only [List.length_append, List.take_zero, List.length_nil]
    omega
  have hK := Maps.int_keyed (P := Tryz.prog) Tryz.underlying3
  have hSK : Maps.Keyed Tryz.prog 9 := Maps.string_keyed Tryz.underlying9
  have HMN : Hid (Maps.size s.mo.M ≤ 200) := by
    have h1 := World.ownsMap.size_le (h.comp .mo)
    have h2 := g.mon
    have h3 := g.ac
    show Maps.size s.mo.M ≤ 200
    omega
  have HOP : Hid (∀ u : Int, Maps.has s.mo.M (.int .i64 u) = (s.tx u).isSome) := open_has g
  have HMB : Hid (s.mo.b < w.heap.size) := h.lt .mo _ rfl
  have HDIS : Hid (∀ t u x y key, s.tx t = some x → s.tx u = some y → touches (U t) key → touches (U u) key → t = u) := hdis
  generalize hkb : s.kb = kb at KC KE KB HMO ⊢
  clear h g hb hl hbd hU hdis hint
  go_enter Tryz.func301, Tryz.ntmps301
  go_wp2
  go_region_held3 (fun w' => True)
    (exact trivial)
    (first
      | (go_at_call 79; go_must (
          refine KC.out.mono ?_
          rintro e w1 ⟨rfl, n, M, s', h1, h2, h3, h4⟩
          have HX : Hid (CellsAt w1 w.heap.size n M (colTo s 8 0) ∧ Paged s s' ∧ Goes w w1 s s' ∧ ∀ tag, s'.blk tag ≠ some w.heap.size) := ⟨h1, h2, h3, h4⟩
          clear h1 h2 h3 h4))
      | (go_at_call 290; go_must (
          refine (KE.out w1 s' HX.out.2.1 HX.out.2.2.1).mono ?_
          rintro e w2 ⟨v2, rfl, hrw2, hb2⟩
          have HY : Hid (CellsAt w2 w.heap.size n M (colTo s 8 0) ∧ Paged s s' ∧ Goes w w2 s s' ∧ (∀ tag, s'.blk tag ≠ some w.heap.size) ∧ w.heap.size < w1.heap.size ∧ w2.ownsRow w1.heap.size 152 9 v2 lg.length (logCells (lg.map (·.1)))) := ⟨⟨HX.out.1.map.below hb2, HX.out.1.ok, HX.out.1.num, HX.out.1.says⟩, HX.out.2.1, HX.out.2.2.1.on_below hb2, HX.out.2.2.2, HX.out.1.map.lt, hrw2⟩
          obtain ⟨c5, hmo2⟩ := HMO.out w2 s' HX.out.2.1 (HX.out.2.2.1.on_below hb2)
          have HM2 : Hid (MapOf w2 3 s.mo.b s.mo.n s.mo.M) := hmo2
          clear hb2 hmo2 hrw2)))
  all_goals
    go_wp2_with (first
      | (at_range; refine wpList_range_own _ rfl _ 227 rfl 3 356 hK Tryz.underlying227 asIs s.mo.b s.mo.n s.mo.M rfl HM2.out ?_; intro w0 hrg0 hg0 hs0))
    go_frame
    have hb0 : Below w2.heap.size w2 w0 := ⟨hg0.os, hg0.tape, hg0.output, by omega, fun q hq => hg0.block q hq (by simp)⟩
    have HB0 : Hid (Below w2.heap.size w2 w0) := hb0
    have HR0 := @id (Hid (World.ranges w0 _ _ _ _ _ _ _ _ _)) hrg0
    clear hg0 hs0 hb0 hrg0
    go_loopw [24] (fun _ wr => ∃ left cnt nK K, Unr s U w.heap.size w2.heap.size w2 wr left cnt nK K) (fun _ wr => wr.rangeLeft s.mo.b w2.heap.size)
    case atStart =>
      obtain ⟨y1, y2, y3, y4, y5, y6⟩ := HY.out
      refine ⟨Maps.has s.mo.M, Maps.size s.mo.M, n, M, HR0.out, y1.map.below HB0.out, y1.ok, by have := y1.num; have := HN.out; have := HMN.out; omega, ?_, fun q h1 _ => HB0.out.block q h1, HB0.out.mono (Nat.zero_le _)⟩
      have hcm : cellOf M = fun k => under (s.cont (bucket k)) k := by
        funext key
        rw [y1.says, HU.out]
      rw [hcm]
      exact Part.start s U _ _ fun t x hx => by rw [HOP.out, hx]; rfl
    case round =>
      obtain ⟨left, cnt, nK, K, hun⟩ := hrel
      have HUN : Hid (Unr s U w.heap.size w2.heap.size w2 wr left cnt nK K) := hun
      have HGO : Hid (Goes w wr s s') := HY.out.2.2.1.beside (Nat.le_refl _) HY.out.2.2.2.1 hun.2.2.2.2.2.1 hun.2.2.2.2.2.2
      clear hun HR0 HB0
      go_wp2_with (first
        | (at_next; refine wpList_next_ranges _ rfl _ rfl 3 hK asIs (Value.int .i64) (fun v : Value => v) (fun key kl hkey => by obtain ⟨x, rfl, _⟩ := Maps.keyOf_int_inv Tryz.underlying3 hkey; exact ⟨x, rfl⟩) (fun v y hv => ⟨v, rfl⟩) s.mo.b w2.heap.size s.mo.n s.mo.M left cnt rfl HUN.out.1 ?_ ?_))
      · intro _ hl0
        have HL0 : Hid (∀ kl, left kl = false) := hl0
        clear hl0
        go_wp2_with (first
          | (go_at_call 78; go_must (
              refine (sorted_any HUN.out.2.1 HUN.out.2.2.1 (by have := HUN.out.2.2.2.1; have := HN.out; omega)).mono ?_
              rintro e w3 ⟨v, ks, rfl, k1, k2, k3⟩
              have HZ : Hid (KeysOf K ks ∧ w3.ownsRow wr.heap.size 43 2 v (pairsOf K ks).length (pairCells (pairsOf K ks)) ∧ Below wr.heap.size wr w3) := ⟨k1, k2, k3⟩
              clear k1 k2 k3)))
        go_ret
        obtain ⟨k1, k2, k3⟩ := HZ.out
        have h4 := HGO.out
        refine ⟨v, wr.heap.size, pairsOf K ks, s', rfl, h4.below.size, ⟨k2, fun tag k hk => h4.lies.lt tag k hk, rising_pw.2 (pairsOf_rising k1.rise)⟩, ⟨left, cellOf K, HUN.out.2.2.2.2.1, HL0.out, fun key => ?_⟩, HY.out.2.1, h4.on_below k3⟩
        rw [pairsOf_under k1]; rfl
      · intro x c kl yd yp w3 cnt1 hkey hlx hv hat hrg1 hlt1 hg1 hs1 hen
        obtain ⟨x', hx', rfl, hwf⟩ := Maps.keyOf_int_inv Tryz.underlying3 hkey
        simp only [Value.int.injEq, true_and] at hx'
        subst hx'
        simp only [asIs, Option.some.injEq, Prod.mk.injEq] at hv
        obtain ⟨rfl, rfl⟩ := hv
        have hhas : Maps.has s.mo.M (.int .i64 x) = true := Maps.has_true_of_atKey hat
        rw [HOP.out] at hhas
        obtain ⟨tx, htx⟩ := Option.isSome_iff_exists.1 hhas
        obtain ⟨u1, u2, u3, u4, u5, u6, u7⟩ := HUN.out
        obtain ⟨y1, y2, y3, y4, y5, y6⟩ := HY.out
        have hz2 := u7.size
        have hmbl := HMB.out
        have hz0 := y3.below.size
        have hz1 : w.heap.size < w2.heap.size := y1.map.lt
        have hfr3 : ∀ q, q < w2.heap.size → q ≠ w.heap.size → w3.heap[q]? = w2.heap[q]? := fun q h1 h2 => (hg1.block q (by omega) (by simp; omega)).trans (u6 q h1 h2)
        have hbw3 : Below 0 w2 w3 := u7.trans ⟨hg1.os, hg1.tape, hg1.output, hg1.size, fun q hq => by omega⟩
        have hmp3 : MapOf w3 9 w.heap.size nK K := u2.kept (hg1.block w.heap.size (by omega) (by simp; omega))
        have hgo3 : Goes w w3 s s' := y3.beside (Nat.le_refl _) y4 hfr3 hbw3
        have hrw3 : w3.ownsRow w1.heap.size 152 9 v2 lg.length (logCells (lg.map (·.1))) := owns_off y6 (fun q hq => hfr3 q (y6.lt q hq).2 (fun e => by have := (y6.lt q hq).1; omega))
        have KB3 : Hid (Calls Tryz.prog 305 #[.pointer (some ⟨kb, 0, none⟩), .int .i64 x, v2] w3 fun e w' => ∃ v es, e = .returned v ∧ w'.ownsRow w3.heap.size 152 9 v es.length (logCells es) ∧ es.map upOf = U x ∧ (∀ e ∈ es, e.key.size ≤ 8 ∧ e.old.size ≤ 12) ∧ es.length ≤ 400 ∧ Below w3.heap.size w3 w') := KB.out w3 s' x tx w1.heap.size v2 y2 hgo3 htx hrw3
        have HW3 : Hid (MapOf w3 9 w.heap.size nK K ∧ w3.ranges Tryz.prog 3 asIs s.mo.b w2.heap.size s.mo.n s.mo.M (fun z => left z && !z.sameKey (.int .i64 x)) cnt1 ∧ (∀ q, q < w2.heap.size → q ≠ w.heap.size → w3.heap[q]? = w2.heap[q]?) ∧ Below 0 w2 w3) := ⟨hmp3, hrg1, hfr3, hbw3⟩
        have HLX : Hid (left (.int .i64 x) = true) := hlx
        have HTX : Hid (s.tx x = some tx) := htx
        have HME : Hid (cnt1 < cnt) := hlt1
        have HSZ : Hid (s.mo.b < w.heap.size ∧ w.heap.size < w2.heap.size) := ⟨hmbl, hz1⟩
        clear hat hrg1 hlt1 hg1 hs1 hkey hwf hhas htx u1 u2 u3 u4 u5 u6 u7 y1 y2 y3 y4 y5 y6 hz2 hmbl hz0 hz1 hfr3 hbw3 hmp3 hgo3 hrw3 hlx c5
        obtain ⟨wa, rfl⟩ : ∃ wa, wa = wr := ⟨_, rfl⟩
        go_wp2_with (first
          | (go_at_call 305; go_must (
              refine KB3.out.mono ?_
              rintro e wb ⟨ve, es, rfl, k1, k2, k3, hes, k5⟩
              obtain ⟨ad, cap, rfl, _⟩ := owns_slice' k1
              have HES : Hid (wb.ownsRow w3.heap.size 152 9 (.slice ad es.length cap) es.length (logCells es)) := k1
              have HEU : Hid (es.map upOf = U x) := k2
              have HEF : Hid (∀ e ∈ es, e.key.size ≤ 8 ∧ e.old.size ≤ 12) := k3
              have HWB : Hid (Below w3.heap.size w3 wb) := k5
              clear k1 k2 k3 k5)))
        go_loopw [33] (fun i wr => ∃ (j nQ : Nat) (Q : DataW Value), j ≤ es.length ∧ i = .int .i64 j ∧ wr.ranges Tryz.prog 3 asIs s.mo.b w2.heap.size s.mo.n s.mo.M (fun z => left z && !z.sameKey (.int .i64 x)) cnt1 ∧ MapOf wr 9 w.heap.size nQ Q ∧ CellsOk Q ∧ nQ ≤ nK + j ∧ (∀ key, cellOf Q key = undoL ((es.take j).map upOf) (cellOf K) key) ∧ (∀ q, q < wb.heap.size → q ≠ w.heap.size → wr.heap[q]? = wb.heap[q]?) ∧ Below 0 wb wr) (fun i _ => es.length - (intOf i).toNat)
        case atStart =>
          obtain ⟨a1, a2, a3, a4⟩ := HW3.out
          refine ⟨0, nK, K, by omega, rfl, a2.kept (row := none) ⟨HWB.out.os, HWB.out.tape, HWB.out.output, HWB.out.size, fun q hq _ => HWB.out.block q hq⟩ (by simp) (by simp), a1.below HWB.out, HUN.out.2.2.1, by omega, fun key => rfl, fun _ _ _ => rfl, Below.refl _ _⟩
        case round =>
          obtain ⟨j, nQ, Q, hj, rfl, hrq, hmq, hoq, hnq, hsq, hfq, hbq⟩ := hrel
          have HQ : Hid (wr.ranges Tryz.prog 3 asIs s.mo.b w2.heap.size s.mo.n s.mo.M (fun z => left z && !z.sameKey (.int .i64 x)) cnt1 ∧ MapOf wr 9 w.heap.size nQ Q ∧ CellsOk Q ∧ (∀ key, cellOf Q key = undoL ((es.take j).map upOf) (cellOf K) key) ∧ (∀ q, q < wb.heap.size → q ≠ w.heap.size → wr.heap[q]? = wb.heap[q]?) ∧ Below 0 wb wr) := ⟨hrq, hmq, hoq, hsq, hfq, hbq⟩
          have hzw : w.heap.size < wr.heap.size := hmq.lt
          have hnQ : nQ ≤ 100000 := by have := HUN.out.2.2.2.1; have := HME.out; omega
          have HOR : Hid (wr.ownsRow w3.heap.size 152 9 (.slice ad es.length cap) es.length (logCells es)) := owns_off HES.out (fun q hq => hfq q (HES.out.lt q hq).2 (fun e => by have := (HES.out.lt q hq).1; have := HW3.out.1.lt; omega))
          clear hrq hmq hoq hsq hfq hbq
          by_cases hltj : j < es.length
          · have hltj' : (j : Int) < (es.length : Int) := by omega
            obtain ⟨g2, cap', he⟩ := owns_some HOR.out (by omega)
            simp only [Value.slice.injEq] at he
            obtain ⟨rfl, -, rfl⟩ := he
            have hget := List.getElem?_eq_getElem hltj
            have hsz := HEF.out _ (List.getElem_mem hltj)
            have HTK : Hid ((es.take (j + 1)).map upOf = (es.take j).map upOf ++ [upOf es[j]]) := by
              show _ = _
              rw [List.take_add_one, hget, List.map_append]; rfl
            generalize es[j] = ej at hget hsz HTK
            obtain ⟨kind, etx, prev, next, key, oldIs, old, newIs, new⟩ := ej
            simp only at hsz
            have a0 : wr.cell? ⟨g2, j * 9, none⟩ = some (.int .i64 kind) := owns_cell HOR.out (by have h9 := logCells_at _ j _ hget 0 (.int .i64 kind) rfl; rw [Nat.add_zero] at h9; exact h9)
            have a1 : wr.cell? ⟨g2, j * 9 + 1, none⟩ = some (.int .i64 etx) := owns_cell HOR.out (logCells_at _ j _ hget 1 _ rfl)
            have a2 : wr.cell? ⟨g2, j * 9 + 2, none⟩ = some (.int .i64 prev) := owns_cell HOR.out (logCells_at _ j _ hget 2 _ rfl)
            have a3 : wr.cell? ⟨g2, j * 9 + 3, none⟩ = some (.int .i64 next) := owns_cell HOR.out (logCells_at _ j _ hget 3 _ rfl)
            have a4 : wr.cell? ⟨g2, j * 9 + 4, none⟩ = some (.string key) := owns_cell HOR.out (logCells_at _ j _ hget 4 _ rfl)
            have a5 : wr.cell? ⟨g2, j * 9 + 5, none⟩ = some (.bool oldIs) := owns_cell HOR.out (logCells_at _ j _ hget 5 _ rfl)
            have a6 : wr.cell? ⟨g2, j * 9 + 6, none⟩ = some (.string old) := owns_cell HOR.out (logCells_at _ j _ hget 6 _ rfl)
            have a7 : wr.cell? ⟨g2, j * 9 + 7, none⟩ = some (.bool newIs) := owns_cell HOR.out (logCells_at _ j _ hget 7 _ rfl)
            have a8 : wr.cell? ⟨g2, j * 9 + 8, none⟩ = some (.string new) := owns_cell HOR.out (logCells_at _ j _ hget 8 _ rfl)
            clear hget
            go_wp2_with (first
              | (at_mapUpdate; go_must (
                  refine wpList_mapUpdate_in _ rfl _ _ _ 138 rfl 9 38 hSK Tryz.underlying138 asIs w.heap.size nQ Q rfl ?hm (by unfold maxLen; omega) (.string key) (.agg #[.bool oldIs, .string old]) (lit key) rfl rfl (key_str key (by omega)) (.held (.agg #[.bool oldIs, .string old])) [] rfl ?_
                  case hm => exact HQ.out.2.1.kept (Below.heap_alloc _ _ _ hzw)
                  intro w5 hm5 htu5
                  have HM5 : Hid (MapOf w5 9 w.heap.size (nQ + 1) (Q.put (lit key) (.held (.agg #[.bool oldIs, .string old])))) := hm5
                  have HT5 := @id (Hid (World.mapTurned _ w5 w.heap.size)) htu5
                  clear hm5 htu5)))
            obtain ⟨t1, t2, t3⟩ := mapTurned_facts HT5.out
            obtain ⟨q1, q2, q3, q4, q5, q6⟩ := HQ.out
            obtain ⟨z1, z2⟩ := HSZ.out
            have hIs := World.ownsMap.isMap q2
            have hbl : ∀ q, q < wr.heap.size → q ≠ w.heap.size → w5.heap[q]? = wr.heap[q]? := fun q h1 h2 => by rw [t1 q h2, Below.heap_alloc _ _ _ h1]
            have hb5 : Below 0 wr w5 := ((Below.refl 0 wr).alloc (Nat.zero_le _) _).trans t3
            have hgr : wr.grownBy w5 (some w.heap.size) := ⟨hb5.os, hb5.tape, hb5.output, hb5.size, fun q h1 h2 => hbl q h1 (fun e => h2 (by rw [e]))⟩
            refine ⟨⟨j + 1, nQ + 1, _, by omega, by simp, q1.kept hgr (by simp; omega) (by simp; omega), HM5.out, q3.put hIs key hsz.1 oldIs old hsz.2, by omega, fun k' => ?_, fun q h1 h2 => (hbl q (by have := q6.size; omega) h2).trans (q5 q h1 h2), q6.trans hb5⟩, by simp [intOf]; omega⟩
            rw [cellOf_put hIs, HTK.out, undoL_snoc, q4]; rfl
          · obtain rfl : j = es.length := by omega
            go_wp2
            obtain ⟨q1, q2, q3, q4, q5, q6⟩ := HQ.out
            obtain ⟨a1, a2, a3, a4⟩ := HW3.out
            have hz3 := HWB.out.size
            have hz4 := a4.size
            refine ⟨⟨_, cnt1, nQ, Q, q1, q2, q3, by have := HUN.out.2.2.2.1; have := HME.out; omega, ?_, fun q h1 h2 => ?_, ?_⟩, ?_⟩
            · refine HUN.out.2.2.2.2.1.step HDIS.out x tx HTX.out HLX.out (fun u => ?_) (fun key => ?_)
              · by_cases e : u = x
                · subst e; simp [Lit.sameKey]
                · rw [Maps.sameKey_ne (by simpa using e)]; simp [e]
              · rw [q4, List.take_length, HEU.out]
            · exact ((q5 q (by omega) h2).trans (HWB.out.block q (by omega))).trans (a3 q h1 h2)
            · exact (a4.trans (HWB.out.mono (Nat.zero_le _))).trans q6
            · rw [q1.left_eq, HUN.out.1.left_eq]; exact HME.out
end Go.Proofs.YtihbngfbcnojcaaGreat

namespace Go.Proofs.YtihbngfbcnojcaaGreat
open Go.RowKit

/-- Dump of a store: what is committed, whatever is open. -/
theorem dump_any {w : World} {a : Nat} {k : Bool} {P : Sp} {X : Nat → Prop} {q : Nat} (S : Store w a k P X q) (hnx : P.next ≤ 1000) :
    Calls Tryz.prog 35 #[.pointer (some ⟨a, 0, none⟩)] w fun e w' => ∃ v, e = .returned (.tuple #[v, .int .i64 0]) ∧ Dumped w w' a k P X q v := by
  obtain ⟨s, L, R, hX⟩ := S
  cases k with
  | true =>
    obtain ⟨⟨lg, hlg, hch⟩, h3, h4⟩ := R.steal rfl
    have hopen : ∀ t x, s.tx t = some x → ∃ p, P.tx t = some p := fun t x hx => by
      obtain ⟨p, hp, _⟩ := rel_open R hx
      exact ⟨p, hp⟩
    let U : Int → Ups := fun t => ((P.tx t).map (·.ups)).getD []
    have hU : ∀ t p, P.tx t = some p → U t = p.ups := fun t p hp => by show ((P.tx t).map (·.ups)).getD [] = _; rw [hp]; rfl
    have hUc : ∀ t x, s.tx t = some x → Chain lg x.last (U t) := fun t x hx => by
      obtain ⟨p, hp⟩ := hopen t x hx
      rw [hU t p hp]
      exact hch t p x hp hx
    have htch : ∀ t p key, P.tx t = some p → touches (U t) key → (p.wrote key).isSome = true := fun t p key hp ⟨u, hu, e⟩ => by
      rw [hU t p hp] at hu
      rw [← e]
      exact (R.ups t p hp).1 u hu
    have hdis : ∀ t u x y key, s.tx t = some x → s.tx u = some y → touches (U t) key → touches (U u) key → t = u := fun t u x y key hx hy h1 h2 => by
      obtain ⟨p, hp⟩ := hopen t x hx
      obtain ⟨p', hp'⟩ := hopen u y hy
      exact R.one t u p p' key hp hp' (htch t p key hp h1) (htch u p' key hp' h2)
    have hint : ∀ t x, s.tx t = some x → IsInt t := fun t x hx => by
      obtain ⟨p, hp⟩ := hopen t x hx
      have h5 := R.pos t p hp
      have h6 : ¬ (P.next : Int) < t := fun h => by rw [R.fut t h] at hp; cases hp
      exact ⟨by omega, by omega⟩
    refine dump_steal a s.kb _ L.ca ((stealCommitted_any L.lies L.good R.buck hlg U hUc hdis hint).mono ?_)
    rintro e w' ⟨v, B, ps, s', h5, h6, h7, ⟨left, f, hf, hl, h8⟩, h9, h10⟩
    refine ⟨v, h5, B, ps, h7.row, h6, h7.rise, fun key => ?_, then_of L hX h10 (h9.held L.held) (h9.cap L.cap) h9.same.1 (R.paged h9)⟩
    rw [h8, R.back U hU hf hl key, R.nrm.1]
  | false =>
    obtain ⟨_, _, _, b4⟩ := R.beside rfl
    refine dump_noSteal a s.kb _ L.ca ((noStealCommitted_step L.lies L.good R.buck).mono ?_)
    rintro e w' ⟨v, B, ps, s', h5, h6, h7, h8, h9, h10⟩
    exact ⟨v, h5, B, ps, h7.row, h6, h7.rise, fun key => by rw [h8]; exact b4 key, then_of L hX h10 (h9.held L.held) (h9.cap L.cap) h9.same.1 (R.paged h9)⟩
end Go.Proofs.YtihbngfbcnojcaaGreat

namespace Go.Proofs.YtihbngfbcnojcaaGreat
open Go.RowKit

/-- Room's keys. -/
def rk (c : Int) (i : Nat) : ByteArray := ⟨#[UInt8.ofNat c.toNat, UInt8.ofNat (8 * i)]⟩
theorem rk_size (c : Int) (i : Nat) : (rk c i).size = 2 := rfl
theorem rk_inj {c : Int} {i j : Nat} (hi : i < 5) (hj : j < 5) (h : rk c i = rk c j) : i = j := by
  unfold rk at h
  simp only [ByteArray.mk.injEq, Array.mk.injEq, List.cons.injEq, and_true, true_and] at h
  have : (UInt8.ofNat (8 * i)).toNat = (UInt8.ofNat (8 * j)).toNat := by rw [h]
  rw [UInt8.toNat_ofNat', UInt8.toNat_ofNat'] at this
  omega
theorem rk_sum (c : Int) (i : Nat) : byteSum (rk c i) 2 = (UInt8.ofNat c.toNat).toNat + (UInt8.ofNat (8 * i)).toNat := by
  simp [byteSum, rk]
theorem rk_bucket (c : Int) (i : Nat) : bucket (rk c i) = bucket (rk c 0) := by
  unfold bucket
  rw [rk_size, rk_size, rk_sum, rk_sum, UInt8.toNat_ofNat' (n := 8 * i), UInt8.toNat_ofNat' (n := 8 * 0)]
  omega

def vcell (v : ByteArray) : Bool × ByteArray := (true, v)
def nocell : Bool × ByteArray := (false, ByteArray.empty)

/-- The keys of these numbers. -/
def ksOf (c : Int) (l : List Nat) : List ByteArray := l.map (rk c)
theorem ksOf_mem {c : Int} {l : List Nat} (hl : ∀ i ∈ l, i < 5) {i : Nat} (hi : i < 5) : rk c i ∈ ksOf c l ↔ i ∈ l := by
  unfold ksOf
  rw [List.mem_map]
  exact ⟨fun ⟨j, hj, e⟩ => by rw [← rk_inj (hl j hj) hi e]; exact hj, fun h => ⟨i, h, rfl⟩⟩
theorem ksOf_nodup {c : Int} : ∀ {l : List Nat}, (∀ i ∈ l, i < 5) → l.Nodup → (ksOf c l).Nodup
  | [], _, _ => List.nodup_nil
  | i :: r, hl, hn => by
    obtain ⟨h1, h2⟩ := List.nodup_cons.1 hn
    show (rk c i :: ksOf c r).Nodup
    exact List.nodup_cons.2 ⟨fun h => h1 ((ksOf_mem (fun j hj => hl j (by simp [hj])) (hl i (by simp))).1 h), ksOf_nodup (fun j hj => hl j (by simp [hj])) h2⟩

/-- No transaction is open; the keys of these numbers are committed. -/
structure Idle (c : Int) (P : Sp) (C : List Nat) : Prop where
  lt : ∀ i ∈ C, i < 5
  nodup : C.Nodup
  tx : ∀ u, P.tx u = none
  comm : ∀ key, (P.comm key).1 = true ↔ key ∈ ksOf c C
  nopen : P.nopen = 0
/-- One is open, and sees the keys of V; those of T are taken. -/
structure Sit (c : Int) (P : Sp) (t : Int) (p : TxP) (T V : List Nat) : Prop where
  ltT : ∀ i ∈ T, i < 5
  ltV : ∀ i ∈ V, i < 5
  nodT : T.Nodup
  nodV : V.Nodup
  tx : ∀ u, P.tx u = if u = t then some p else none
  taken : ∀ key, ((P.comm key).1 = true ∨ (p.wrote key).isSome = true) ↔ key ∈ ksOf c T
  view : ∀ key, ((p.wrote key).getD (P.comm key)).1 = true ↔ key ∈ ksOf c V
  nopen : P.nopen = 1

theorem Idle.begin {c : Int} {P : Sp} {C : List Nat} (h : Idle c P C) : Sit c P.begin ((P.next : Int) + 1) TxP.new C C :=
  ⟨h.lt, h.lt, h.nodup, h.nodup, fun u => by simp only [Sp.begin]; rw [h.tx], fun key => by rw [← h.comm]; simp [Sp.begin, TxP.new], fun key => by rw [← h.comm]; simp [Sp.begin, TxP.new], by show P.nopen + 1 = 1; rw [h.nopen]⟩

theorem Sit.commit {c : Int} {P : Sp} {t : Int} {p : TxP} {T V : List Nat} (h : Sit c P t p T V) : Idle c (P.commit t p) V :=
  ⟨h.ltV, h.nodV, fun u => by simp only [Sp.commit]; rw [h.tx]; split <;> rfl, fun key => h.view key, by show P.nopen - 1 = 0; rw [h.nopen]⟩

theorem Sit.room {c : Int} {P : Sp} {t : Int} {p : TxP} {T V : List Nat} (h : Sit c P t p T V) {i : Nat} (hi : i < 5) : HasRoom P (rk c i) ↔ i ∈ T ∨ T.length < 4 := by
  have hm : ∀ key, key ∈ ksOf c T ↔ Go.Proofs.YtihbngfbcnojcaaGreat.taken P (bucket (rk c i)) key := fun key => by
    unfold Go.Proofs.YtihbngfbcnojcaaGreat.taken
    have h1 : (∃ u p', P.tx u = some p' ∧ (p'.wrote key).isSome = true) ↔ (p.wrote key).isSome = true := by
      constructor
      · rintro ⟨u, p', hp', hw⟩
        rw [h.tx] at hp'
        split at hp'
        · simp only [Option.some.injEq] at hp'; rw [hp']; exact hw
        · cases hp'
      · exact fun hw => ⟨t, p, by rw [h.tx]; simp, hw⟩
    rw [h1, h.taken]
    refine ⟨fun hk => ⟨?_, hk⟩, fun hk => hk.2⟩
    obtain ⟨j, hj, rfl⟩ := List.mem_map.1 hk
    rw [rk_bucket c j, rk_bucket c i]
  constructor
  · rintro ⟨L, l1, l2, l3⟩
    have e : ∀ key, key ∈ L ↔ key ∈ ksOf c T := fun key => (l2 key).trans (hm key).symm
    rcases l3 with l3 | l3
    · exact .inl ((ksOf_mem h.ltT hi).1 ((e _).1 l3))
    · refine .inr ?_
      have := length_same l1 (ksOf_nodup h.ltT h.nodT) e
      simp only [ksOf, List.length_map] at this
      omega
  · rintro (h1 | h1)
    · exact ⟨ksOf c T, ksOf_nodup h.ltT h.nodT, hm, .inl ((ksOf_mem h.ltT hi).2 h1)⟩
    · exact ⟨ksOf c T, ksOf_nodup h.ltT h.nodT, hm, .inr (by simp only [ksOf, List.length_map]; exact h1)⟩

theorem Sit.may {c : Int} {P : Sp} {t : Int} {p : TxP} {T V : List Nat} (h : Sit c P t p T V) {i : Nat} (hi : i < 5) (ce : Bool × ByteArray) (hv : ce.2.size ≤ 12) (hn : norm ce = ce) (ha : P.acts < 120) (hr : i ∈ T ∨ T.length < 4) : MayPut P t p (rk c i) ce :=
  ⟨by rw [h.tx]; simp, by rw [rk_size]; omega, hv, hn, (fun u p' hp' hu => by rw [h.tx, if_neg hu] at hp'; cases hp'), ha, (h.room hi).2 hr⟩

theorem Sit.write {c : Int} {P : Sp} {t : Int} {p : TxP} {T V : List Nat} (h : Sit c P t p T V) {i : Nat} (hi : i < 5) (ce : Bool × ByteArray) (T' V' : List Nat) (hT' : T' = if i ∈ T then T else i :: T) (hV' : V' = if ce.1 then i :: V.filter (· ≠ i) else V.filter (· ≠ i)) : Sit c (P.write t p (rk c i) ce) t (p.put P (rk c i) ce) T' V' := by
  have hfl : ∀ j ∈ V.filter (· ≠ i), j < 5 := fun j hj => h.ltV j (List.mem_filter.1 hj).1
  have hfm : ∀ key, key ∈ ksOf c (V.filter (· ≠ i)) ↔ key ≠ rk c i ∧ key ∈ ksOf c V := fun key => by
    unfold ksOf
    rw [List.mem_map, List.mem_map]
    constructor
    · rintro ⟨j, hj, rfl⟩
      obtain ⟨h1, h2⟩ := List.mem_filter.1 hj
      exact ⟨fun e => by simp at h2; exact h2 (rk_inj (h.ltV j h1) hi e), j, h1, rfl⟩
    · rintro ⟨h1, j, hj, rfl⟩
      exact ⟨j, List.mem_filter.2 ⟨hj, by simp; exact fun e => h1 (by rw [e])⟩, rfl⟩
  have hput : ∀ key, (p.put P (rk c i) ce).wrote key = if key = rk c i then some ce else p.wrote key := fun key => rfl
  subst hT' hV'
  refine ⟨?_, ?_, ?_, ?_, fun u => ?_, fun key => ?_, fun key => ?_, h.nopen⟩
  · split
    · exact h.ltT
    · intro j hj
      rcases List.mem_cons.1 hj with rfl | hj
      · exact hi
      · exact h.ltT j hj
  · split
    · intro j hj
      rcases List.mem_cons.1 hj with rfl | hj
      · exact hi
      · exact hfl j hj
    · exact hfl
  · split
    · exact h.nodT
    · rename_i hni
      exact List.nodup_cons.2 ⟨hni, h.nodT⟩
  · split
    · exact List.nodup_cons.2 ⟨fun hj => by have := (List.mem_filter.1 hj).2; simp at this, h.nodV.filter _⟩
    · exact h.nodV.filter _
  · simp only [Sp.write]
    by_cases hu : u = t
    · rw [if_pos hu, if_pos hu]
    · rw [if_neg hu, if_neg hu, h.tx, if_neg hu]
  · show ((P.comm key).1 = true ∨ ((p.put P (rk c i) ce).wrote key).isSome = true) ↔ _
    rw [hput]
    by_cases he : key = rk c i
    · rw [if_pos he]
      refine ⟨fun _ => ?_, fun _ => .inr rfl⟩
      rw [he]
      split
      · rename_i hin; exact (ksOf_mem h.ltT hi).2 hin
      · exact List.mem_map.2 ⟨i, by simp, rfl⟩
    · rw [if_neg he, h.taken]
      split
      · exact Iff.rfl
      · show _ ↔ key ∈ rk c i :: ksOf c T
        rw [List.mem_cons]
        exact ⟨.inr, fun h => h.resolve_left he⟩
  · show (((p.put P (rk c i) ce).wrote key).getD (P.comm key)).1 = true ↔ _
    rw [hput]
    by_cases he : key = rk c i
    · rw [if_pos he]
      show ce.1 = true ↔ _
      cases hc : ce.1
      · simp only [Bool.false_eq_true, if_false, false_iff]
        exact fun h => ((hfm key).1 h).1 he
      · simp only [if_true, true_iff]
        rw [he]
        exact List.mem_map.2 ⟨i, by simp, rfl⟩
    · rw [if_neg he, h.view]
      cases hc : ce.1
      · simp only [Bool.false_eq_true, if_false]
        rw [hfm]
        exact ⟨fun h => ⟨he, h⟩, fun h => h.2⟩
      · simp only [if_true]
        show _ ↔ key ∈ rk c i :: ksOf c (V.filter (· ≠ i))
        rw [List.mem_cons, hfm]
        exact ⟨fun h => .inr ⟨he, h⟩, fun h => (h.resolve_left he).2⟩

theorem Idle.count {c : Int} {P : Sp} {C : List Nat} (h : Idle c P C) {ps : Pairs} (hr : RisingAt ps) (hu : ∀ key, under ps key = P.comm key) : ps.length = C.length := by
  have h1 := length_same (rising_nodup hr) (ksOf_nodup h.lt h.nodup) (fun key => by
    rw [← h.comm, ← hu, under_in, List.mem_map])
  simp only [List.length_map, ksOf] at h1
  exact h1
end Go.Proofs.YtihbngfbcnojcaaGreat

namespace Go.Proofs.YtihbngfbcnojcaaGreat
open Go.RowKit

/-- What is in X lies as it lay. -/
def Stays (w w' : World) (X : Nat → Prop) : Prop := Below 0 w w' ∧ ∀ x, X x → w'.heap[x]? = w.heap[x]?
/-- A store in which nothing is open. -/
def RIdle (w : World) (a : Nat) (k : Bool) (X : Nat → Prop) (c : Int) (C : List Nat) (q A Ln nx : Nat) : Prop := ∃ P, Store w a k P X q ∧ Idle c P C ∧ P.acts ≤ A ∧ P.len ≤ Ln ∧ P.next = nx
/-- .. in which one transaction is. -/
def RSit (w : World) (a : Nat) (k : Bool) (X : Nat → Prop) (c : Int) (T V : List Nat) (q A Ln nx : Nat) : Prop := ∃ P p, Store w a k P X q ∧ Sit c P (nx : Int) p T V ∧ P.acts ≤ A ∧ P.len ≤ Ln ∧ P.next = nx

theorem rBegin {w : World} {a : Nat} {k : Bool} {X : Nat → Prop} {c : Int} {C : List Nat} {q A Ln nx : Nat} (h : RIdle w a k X c C q A Ln nx) (hA : A < 120) (hn : nx ≤ 200) :
    Calls Tryz.prog 19 #[.pointer (some ⟨a, 0, none⟩)] w fun e w' => e = .returned (.tuple #[.int .i64 ((nx + 1 : Nat) : Int), .int .i64 0]) ∧ RSit w' a k X c C C q (A + 1) Ln (nx + 1) ∧ Stays w w' X := by
  obtain ⟨P, S, I, h1, h2, rfl⟩ := h
  refine (sBegin S (by rw [I.nopen]; omega) (by omega) hn).mono ?_
  rintro e w' ⟨rfl, h3, h4⟩
  refine ⟨?_, ⟨P.begin, TxP.new, h3, I.begin, by show P.acts + 1 ≤ A + 1; omega, h2, rfl⟩, h4⟩
  simp

theorem rWrite {w : World} {a : Nat} {k : Bool} {X : Nat → Prop} {c : Int} {T V : List Nat} {q A Ln nx : Nat} (h : RSit w a k X c T V q A Ln nx) (hA : A < 120) (hL : Ln ≤ 390) (hq : q ≤ 99999) (hn : nx < 256) (i : Nat) (hi : i < 5) (ce : Bool × ByteArray) (hv : ce.2.size ≤ 12) (hno : norm ce = ce) (hr : i ∈ T ∨ T.length < 4) (T' V' : List Nat) (hT' : T' = if i ∈ T then T else i :: T) (hV' : V' = if ce.1 then i :: V.filter (· ≠ i) else V.filter (· ≠ i)) :
    Calls Tryz.prog 42 #[.pointer (some ⟨a, 0, none⟩), .int .i64 (nx : Int), .string (rk c i), .agg #[.bool ce.1, .string ce.2]] w fun e w' => ∃ r, e = .returned (.int .i64 r) ∧ r = 0 ∧ RSit w' a k X c T' V' (q + 1) (A + 1) (Ln + 1) nx ∧ Stays w w' X := by
  obtain ⟨P, p, S, I, h1, h2, h3⟩ := h
  refine (write_ok S hq (by omega) (nx : Int) (by omega) p (rk c i) ce (I.may hi ce hv hno (by omega) hr)).mono ?_
  rintro e w' ⟨r, h4, h5, h6, h7⟩
  exact ⟨r, h4, h5, ⟨_, _, h6, I.write hi ce T' V' hT' hV', by show P.acts + 1 ≤ A + 1; omega, by show P.len + 1 ≤ Ln + 1; omega, h3⟩, h7⟩

theorem rFull {w : World} {a : Nat} {k : Bool} {X : Nat → Prop} {c : Int} {T V : List Nat} {q A Ln nx : Nat} (h : RSit w a k X c T V q A Ln nx) (hq : q ≤ 99999) (hn : nx < 256) (i : Nat) (hi : i < 5) (ce : Bool × ByteArray) (hv : ce.2.size ≤ 12) (hr : ¬ (i ∈ T ∨ T.length < 4)) :
    Calls Tryz.prog 42 #[.pointer (some ⟨a, 0, none⟩), .int .i64 (nx : Int), .string (rk c i), .agg #[.bool ce.1, .string ce.2]] w fun e w' => ∃ r, e = .returned (.int .i64 r) ∧ r = 10 ∧ RSit w' a k X c T V q A Ln nx ∧ Stays w w' X := by
  obtain ⟨P, p, S, I, h1, h2, h3⟩ := h
  refine (write_full S (by omega) (nx : Int) ⟨by omega, by omega⟩ p (by rw [I.tx]; simp) (rk c i) (by rw [rk_size]; omega) ce hv (fun u p' hp' hu => by rw [I.tx, if_neg hu] at hp'; cases hp') (fun hh => hr ((I.room hi).1 hh))).mono ?_
  rintro e w' ⟨r, h4, h5, h6, h7⟩
  exact ⟨r, h4, h5, ⟨P, p, h6, I, h1, h2, h3⟩, h7⟩

theorem rCommit {w : World} {a : Nat} {k : Bool} {X : Nat → Prop} {c : Int} {T V : List Nat} {q A Ln nx : Nat} (h : RSit w a k X c T V q A Ln nx) (hL : Ln ≤ 270) (hn : nx < 256) :
    Calls Tryz.prog 21 #[.pointer (some ⟨a, 0, none⟩), .int .i64 (nx : Int)] w fun e w' => e = .returned (.int .i64 0) ∧ RIdle w' a k X c V q A (Ln + 122) nx ∧ Stays w w' X := by
  obtain ⟨P, p, S, I, h1, h2, h3⟩ := h
  refine (commit_ok S (by omega) (nx : Int) (by omega) p (by rw [I.tx]; simp)).mono ?_
  rintro e w' ⟨h4, h5, h6⟩
  exact ⟨h4, ⟨_, h5, I.commit, h1, by show P.len + 122 ≤ _; omega, h3⟩, h6⟩

/-- Put and Delete, over what write does. -/
theorem rPut {w : World} {a : Nat} {t : Int} {key val : ByteArray} {r0 : Int} {R : World → Prop} (h : Calls Tryz.prog 42 #[.pointer (some ⟨a, 0, none⟩), .int .i64 t, .string key, .agg #[.bool true, .string val]] w fun e w' => ∃ r, e = .returned (.int .i64 r) ∧ r = r0 ∧ R w') :
    Calls Tryz.prog 20 #[.pointer (some ⟨a, 0, none⟩), .int .i64 t, .string key, .string val] w fun e w' => e = .returned (.int .i64 r0) ∧ R w' := by
  refine (put_of a t key val w (fun r w' => r = r0 ∧ R w') h).mono ?_
  rintro e w' ⟨r, h1, rfl, h2⟩
  exact ⟨h1, h2⟩
theorem rDelete {w : World} {a : Nat} {t : Int} {key : ByteArray} {r0 : Int} {R : World → Prop} (h : Calls Tryz.prog 42 #[.pointer (some ⟨a, 0, none⟩), .int .i64 t, .string key, .agg #[.bool false, .string ByteArray.empty]] w fun e w' => ∃ r, e = .returned (.int .i64 r) ∧ r = r0 ∧ R w') :
    Calls Tryz.prog 24 #[.pointer (some ⟨a, 0, none⟩), .int .i64 t, .string key] w fun e w' => e = .returned (.int .i64 r0) ∧ R w' := by
  refine (delete_of a t key w (fun r w' => r = r0 ∧ R w') h).mono ?_
  rintro e w' ⟨r, h1, rfl, h2⟩
  exact ⟨h1, h2⟩

set_option maxHeartbeats 400000 in
/-- The keep's dump. -/
theorem rDump {w : World} {a : Nat} {k : Bool} {X : Nat → Prop} {c : Int} {C : List Nat} {q A Ln nx : Nat} (h : RIdle w a k X c C q A Ln nx) :
    Calls Tryz.prog 22 #[.pointer (some ⟨a, 0, none⟩)] w fun e w' => ∃ ad cp, e = .returned (.tuple #[.slice ad C.length cp, .bool true]) ∧ Stays w w' X := by
  obtain ⟨P, S, I, h1, h2, h3⟩ := h
  have K : Hid (Calls Tryz.prog 35 #[.pointer (some ⟨a, 0, none⟩)] w fun e w' => ∃ ad cp, e = .returned (.tuple #[.slice ad C.length cp, .int .i64 0]) ∧ Stays w w' X) := by
    refine (dump_idle S I.nopen).mono ?_
    rintro e w' ⟨v, rfl, B, ps, h4, h5, h6, h7, h8⟩
    obtain ⟨ad, cp, rfl, _⟩ := owns_slice' h4
    rw [I.count h6 h7]
    exact ⟨ad, cp, rfl, h8.2⟩
  clear S I
  go_enter Tryz.func22, Tryz.ntmps22
  go_wp2_with (first
    | (go_at_call 35; go_must (refine K.out.mono ?_; rintro e w1 ⟨ad, cp, rfl, hb⟩)))
  go_ret2
  exact ⟨ad, cp, rfl, hb⟩

theorem Store.touch {w w' : World} {a : Nat} {k : Bool} {P : Sp} {X : Nat → Prop} {q : Nat} (S : Store w a k P X q) (ha : w'.heap[a]? = w.heap[a]?) (hk : ∀ x, x < w.heap.size → ¬ X x → w'.heap[x]? = w.heap[x]?) (hb : Below 0 w w') : Store w' a k P X q := by
  obtain ⟨s, L, R, hX⟩ := S
  refine ⟨s, ⟨L.lies.frame (fun tag x hx => hk x (L.lies.lt tag x hx) (fun hxx => (hX x hxx).2 tag hx)) hb.size, L.good, L.held, L.cap, by have := L.haw; have := hb.size; omega, L.hao, (World.cell?_of_block ha).trans L.ca⟩, R, fun x hx => ⟨by have := (hX x hx).1; have := hb.size; omega, (hX x hx).2⟩⟩
theorem Store.grow {w w' : World} {a : Nat} {k : Bool} {P : Sp} {X : Nat → Prop} {q : Nat} (S : Store w a k P X q) (hb : Below w.heap.size w w') (X' : Nat → Prop) (hX' : ∀ x, X' x → X x ∨ (w.heap.size ≤ x ∧ x < w'.heap.size)) : Store w' a k P X' q := by
  obtain ⟨s, L, R, hX⟩ := S
  refine ⟨s, L.go (Goes.of_below L.lies L.good hb) L.held L.cap rfl, R, fun x hx => ?_⟩
  have hs := hb.size
  rcases hX' x hx with h | ⟨h1, h2⟩
  · exact ⟨by have := (hX x h).1; omega, (hX x h).2⟩
  · exact ⟨h2, fun tag ht => by have := L.lies.lt tag x ht; omega⟩
end Go.Proofs.YtihbngfbcnojcaaGreat

namespace Go.Proofs.YtihbngfbcnojcaaGreat
open Go.RowKit

theorem then_more {w w' : World} {a : Nat} {k : Bool} {s s' : Sv} {P' : Sp} {X : Nat → Prop} {q q' B : Nat} (h : Live w a (kindT k) s q) (hX : ∀ x, X x → x < w.heap.size ∧ ∀ tag, s.blk tag ≠ some x) (g : Goes w w' s s') (hh : Held s' q') (hc : Cap s') (hk : s'.kb = s.kb) (hr : Rel k s' P') (hap : ∀ tag k, s'.blk tag = some k → k < B) : Then w w' a k P' X q' ∧ Store w' a k P' (fun x => X x ∨ (B ≤ x ∧ x < w'.heap.size)) q' := by
  have h0 := then_of h hX g hh hc hk hr
  refine ⟨h0, s', h.go g hh hc hk, hr, fun x hx => ?_⟩
  rcases hx with hx | ⟨h1, h2⟩
  · obtain ⟨h1, h2⟩ := hX x hx
    refine ⟨by have := g.below.size; omega, fun tag ht => ?_⟩
    rcases g.grown tag x ht with h3 | h3
    · exact h2 tag h3
    · omega
  · exact ⟨h2, fun tag ht => by have := hap tag x ht; omega⟩

/-- What Dump answers, and that it is none of the store's own. -/
def DumpedX (w w' : World) (a : Nat) (k : Bool) (P : Sp) (X : Nat → Prop) (q : Nat) (v : Value) : Prop := ∃ B ps, w'.ownsRow B 43 2 v ps.length (pairCells ps) ∧ w.heap.size ≤ B ∧ RisingAt ps ∧ (∀ key, under ps key = P.comm key) ∧ Then w w' a k P X q ∧ Store w' a k P (fun x => X x ∨ (B ≤ x ∧ x < w'.heap.size)) q

/-- Dump of a store: what is committed, whatever is open. -/
theorem dump_full {w : World} {a : Nat} {k : Bool} {P : Sp} {X : Nat → Prop} {q : Nat} (S : Store w a k P X q) (hnx : P.next ≤ 1000) :
    Calls Tryz.prog 35 #[.pointer (some ⟨a, 0, none⟩)] w fun e w' => ∃ v, e = .returned (.tuple #[v, .int .i64 0]) ∧ DumpedX w w' a k P X q v := by
  obtain ⟨s, L, R, hX⟩ := S
  cases k with
  | true =>
    obtain ⟨⟨lg, hlg, hch⟩, h3, h4⟩ := R.steal rfl
    have hopen : ∀ t x, s.tx t = some x → ∃ p, P.tx t = some p := fun t x hx => by
      obtain ⟨p, hp, _⟩ := rel_open R hx
      exact ⟨p, hp⟩
    let U : Int → Ups := fun t => ((P.tx t).map (·.ups)).getD []
    have hU : ∀ t p, P.tx t = some p → U t = p.ups := fun t p hp => by show ((P.tx t).map (·.ups)).getD [] = _; rw [hp]; rfl
    have hUc : ∀ t x, s.tx t = some x → Chain lg x.last (U t) := fun t x hx => by
      obtain ⟨p, hp⟩ := hopen t x hx
      rw [hU t p hp]
      exact hch t p x hp hx
    have htch : ∀ t p key, P.tx t = some p → touches (U t) key → (p.wrote key).isSome = true := fun t p key hp ⟨u, hu, e⟩ => by
      rw [hU t p hp] at hu
      rw [← e]
      exact (R.ups t p hp).1 u hu
    have hdis : ∀ t u x y key, s.tx t = some x → s.tx u = some y → touches (U t) key → touches (U u) key → t = u := fun t u x y key hx hy h1 h2 => by
      obtain ⟨p, hp⟩ := hopen t x hx
      obtain ⟨p', hp'⟩ := hopen u y hy
      exact R.one t u p p' key hp hp' (htch t p key hp h1) (htch u p' key hp' h2)
    have hint : ∀ t x, s.tx t = some x → IsInt t := fun t x hx => by
      obtain ⟨p, hp⟩ := hopen t x hx
      have h5 := R.pos t p hp
      have h6 : ¬ (P.next : Int) < t := fun h => by rw [R.fut t h] at hp; cases hp
      exact ⟨by omega, by omega⟩
    refine dump_steal a s.kb _ L.ca ((stealCommitted_any L.lies L.good R.buck hlg U hUc hdis hint).mono ?_)
    rintro e w' ⟨v, B, ps, s', h5, h6, h7, ⟨left, f, hf, hl, h8⟩, h9, h10⟩
    refine ⟨v, h5, B, ps, h7.row, h6, h7.rise, fun key => ?_, then_more L hX h10 (h9.held L.held) (h9.cap L.cap) h9.same.1 (R.paged h9) h7.apart⟩
    rw [h8, R.back U hU hf hl key, R.nrm.1]
  | false =>
    obtain ⟨_, _, _, b4⟩ := R.beside rfl
    refine dump_noSteal a s.kb _ L.ca ((noStealCommitted_step L.lies L.good R.buck).mono ?_)
    rintro e w' ⟨v, B, ps, s', h5, h6, h7, h8, h9, h10⟩
    exact ⟨v, h5, B, ps, h7.row, h6, h7.rise, fun key => by rw [h8]; exact b4 key, then_more L hX h10 (h9.held L.held) (h9.cap L.cap) h9.same.1 (R.paged h9) h7.apart⟩

set_option maxHeartbeats 400000 in
/-- The keep's dump. -/
theorem keepDump {w : World} {a : Nat} {k : Bool} {P : Sp} {X : Nat → Prop} {q : Nat} (S : Store w a k P X q) (hnx : P.next ≤ 1000) :
    Calls Tryz.prog 22 #[.pointer (some ⟨a, 0, none⟩)] w fun e w' => ∃ v, e = .returned (.tuple #[v, .bool true]) ∧ DumpedX w w' a k P X q v := by
  have K := @id (Hid (Calls _ _ _ w _)) (dump_full S hnx)
  clear S
  go_enter Tryz.func22, Tryz.ntmps22
  go_wp2_with (first
    | (go_at_call 35; go_must (refine K.out.mono ?_; rintro e w1 ⟨v, rfl, hb⟩; have HB := @id (Hid (DumpedX _ w1 _ _ _ _ _ _)) hb; clear hb)))
  go_ret2
  exact ⟨v, rfl, HB.out⟩

/-- Only one key is spoken of. -/
structure Only (P : Sp) (key : ByteArray) : Prop where
  comm : ∀ k, k ≠ key → P.comm k = (false, ByteArray.empty)
  wrote : ∀ t p k, P.tx t = some p → (p.wrote k).isSome = true → k = key
theorem Only.room {P : Sp} {key : ByteArray} (h : Only P key) : HasRoom P key := by
  have h1 : ∀ k, taken P (bucket key) k → k = key := fun k hk => by
    rcases hk.2 with h2 | ⟨t, p, hp, h2⟩
    · by_cases he : k = key
      · exact he
      · rw [h.comm k he] at h2; cases h2
    · exact h.wrote t p k hp h2
  by_cases hk : taken P (bucket key) key
  · exact ⟨[key], by simp, fun k => ⟨(fun h2 => by simp at h2; rw [h2]; exact hk), fun h2 => by simp; exact h1 k h2⟩, .inl (by simp)⟩
  · exact ⟨[], by simp, fun k => ⟨(fun h2 => by simp at h2), fun h2 => absurd (h1 k h2 ▸ h2) hk⟩, .inr (by simp)⟩

theorem one_pair {ps : Pairs} {key val : ByteArray} (hr : RisingAt ps) (h : ∀ k, under ps k = if k = key then (true, val) else (false, ByteArray.empty)) : ps = [(key, val)] := by
  have hl : ps.length = 1 := by
    have h1 := length_same (L := ps.map (·.1)) (L' := [key]) (rising_nodup hr) (by simp) (fun k => by
      rw [List.mem_map, List.mem_singleton, ← under_in, h k]
      by_cases he : k = key <;> simp [he])
    simpa using h1
  match ps, hl with
  | [p], _ =>
    obtain ⟨pk, pv⟩ := p
    have h1 : (under [(pk, pv)] key).1 = true := by rw [h key]; simp
    obtain ⟨p, hp, he⟩ := under_in.1 h1
    simp at hp
    subst hp
    simp only at he
    subst he
    have h2 := h pk
    rw [if_pos rfl] at h2
    rcases under_cases [(pk, pv)] pk with ⟨p, hp, _, e⟩ | ⟨e, _⟩
    · simp at hp
      subst hp
      rw [e] at h2
      simp at h2
      rw [h2]
    · exact absurd rfl (e (pk, pv) (by simp))
end Go.Proofs.YtihbngfbcnojcaaGreat

namespace Go.Proofs.YtihbngfbcnojcaaGreat
open Go.RowKit

def modeI : Bool → Int
  | true => 0
  | false => 1
set_option maxHeartbeats 400000 in
theorem mode_any (m : Int) (w : World) :
    Calls Tryz.prog 18 #[.int .i64 m] w fun e w' => ∃ b : Bool, e = .returned (.int .i64 (modeI b)) ∧ w = w' := by
  go_enter Tryz.func18, Tryz.ntmps18
  go_wp2
  · go_ret
    exact ⟨true, rfl, rfl⟩
  · go_ret
    exact ⟨false, rfl, rfl⟩

set_option maxHeartbeats 400000 in
theorem fresh_any (b : Bool) (w : World) :
    Calls Tryz.prog 17 #[.int .i64 (modeI b)] w fun e w' => ∃ a s, e = .returned (.pointer (some ⟨a, 0, none⟩)) ∧ Below w.heap.size w w' ∧ NewStore w w' a b s := by
  cases b with
  | true =>
    simp only [modeI]
    go_enter Tryz.func17, Tryz.ntmps17
    go_wp2_with (first
      | (go_at_call 40; go_must (refine (newFull_steal w).mono ?_; rintro e w1 ⟨a, s, rfl, hb, hn⟩; have HN : Hid (Below w.heap.size w w1 ∧ NewStore w w1 a true s) := ⟨hb, hn⟩; clear hb hn)))
    go_ret
    exact ⟨a, s, rfl, HN.out⟩
  | false =>
    simp only [modeI]
    go_enter Tryz.func17, Tryz.ntmps17
    go_wp2_with (first
      | (go_at_call 40; go_must (refine (newFull_noSteal w).mono ?_; rintro e w1 ⟨a, s, rfl, hb, hn⟩; have HN : Hid (Below w.heap.size w w1 ∧ NewStore w w1 a false s) := ⟨hb, hn⟩; clear hb hn)))
    go_ret
    exact ⟨a, s, rfl, HN.out⟩

/-- The numbers below, the last one first. -/
def Ti : Nat → List Nat
  | 0 => []
  | n + 1 => n :: Ti n
theorem Ti_step (i : Nat) (hi : i < 4) : (i ∈ Ti i ∨ (Ti i).length < 4) ∧ (Ti (i + 1) = if i ∈ Ti i then Ti i else i :: Ti i) ∧ Ti (i + 1) = i :: (Ti i).filter (· ≠ i) := by
  have h : i = 0 ∨ i = 1 ∨ i = 2 ∨ i = 3 := by omega
  rcases h with rfl | rfl | rfl | rfl <;> simp [Ti]

/-- Room's array of keys, so far. -/
def kc (c : Int) (i : Nat) : Array Value := #[.string (if 0 < i then rk c 0 else ByteArray.empty), .string (if 1 < i then rk c 1 else ByteArray.empty), .string (if 2 < i then rk c 2 else ByteArray.empty), .string (if 3 < i then rk c 3 else ByteArray.empty), .string (if 4 < i then rk c 4 else ByteArray.empty)]
theorem kc_step (c : Int) (i : Nat) (hi : i < 5) : (kc c i).setIfInBounds i (.string (rk c i)) = kc c (i + 1) := by
  have h : i = 0 ∨ i = 1 ∨ i = 2 ∨ i = 3 ∨ i = 4 := by omega
  rcases h with rfl | rfl | rfl | rfl | rfl <;> simp [kc]
theorem kc_at (c : Int) (i : Nat) (hi : i < 5) : ∃ u, (kc c i)[i]? = some u := by
  have h : i = 0 ∨ i = 1 ∨ i = 2 ∨ i = 3 ∨ i = 4 := by omega
  rcases h with rfl | rfl | rfl | rfl | rfl <;> exact ⟨_, rfl⟩

/-- Room's keys lie at kk, and what was there ahead of all lies as it lay. -/
def Keys (w0 w : World) (c : Int) (kk i : Nat) : Prop := w.heap[kk]? = some (.cells (kc c i) 45 (0, 0)) ∧ Below w0.heap.size w0 w
/-- What Room's caller has, and its keys. -/
def Mine (w0 : World) (kk : Nat) (x : Nat) : Prop := x < w0.heap.size ∨ x = kk
theorem Keys.stays {w0 w w' : World} {c : Int} {kk i : Nat} (h : Keys w0 w c kk i) (hs : Stays w w' (Mine w0 kk)) : Keys w0 w' c kk i :=
  ⟨(hs.2 kk (.inr rfl)).trans h.1, ⟨hs.1.os.trans h.2.os, hs.1.tape.trans h.2.tape, hs.1.output.trans h.2.output, by have := hs.1.size; have := h.2.size; omega, fun x hx => (hs.2 x (.inl hx)).trans (h.2.block x hx)⟩⟩
theorem Keys.at2 {w0 w : World} {c : Int} {kk : Nat} (h : Keys w0 w c kk 5) : w.cell? ⟨kk, 2, none⟩ = some (.string (rk c 2)) ∧ w.cell? ⟨kk, 4, none⟩ = some (.string (rk c 4)) := ⟨cell_at (j := 2) h.1 rfl, cell_at (j := 4) h.1 rfl⟩

/-- One key more. -/
theorem keys_more {w0 wr : World} {a : Nat} {k : Bool} {c : Int} {kk i : Nat} {P : Sp} (hi : i < 5) (S : Store wr a k P (Mine w0 kk) 0) (K : Keys w0 wr c kk i) (hak : a ≠ kk) (hk0 : w0.heap.size ≤ kk) (B : Obj) :
    Store ((wr.setCell ⟨kk, i, none⟩ (.string (rk c i))).alloc B) a k P (Mine w0 kk) 0 ∧ Keys w0 ((wr.setCell ⟨kk, i, none⟩ (.string (rk c i))).alloc B) c kk (i + 1) := by
  have hb : Below 0 wr (wr.setCell ⟨kk, i, none⟩ (.string (rk c i))) := (Below.refl _ _).setCell (p := ⟨kk, i, none⟩) (Nat.zero_le _) _
  have S1 : Store (wr.setCell ⟨kk, i, none⟩ (.string (rk c i))) a k P (Mine w0 kk) 0 := S.touch (Below.heap_setCell _ _ _ _ hak) (fun x _ hx => Below.heap_setCell _ _ _ _ (fun e => hx (.inr e))) hb
  have hkk : (wr.setCell ⟨kk, i, none⟩ (.string (rk c i))).heap[kk]? = some (.cells (kc c (i + 1)) 45 (0, 0)) := by rw [← kc_step c i hi]; exact setCell_at wr kk i _ _ _ K.1
  have hba := (Below.refl (wr.setCell ⟨kk, i, none⟩ (.string (rk c i))).heap.size (wr.setCell ⟨kk, i, none⟩ (.string (rk c i)))).alloc (Nat.le_refl _) B
  refine ⟨S1.grow hba _ (fun x hx => .inl hx), (hba.block _ (lt_of_block' hkk)).trans hkk, ?_⟩
  have h2 : Below w0.heap.size w0 (wr.setCell ⟨kk, i, none⟩ (.string (rk c i))) := K.2.setCell (p := ⟨kk, i, none⟩) hk0 _
  exact h2.trans (hba.mono h2.size)

theorem conv_key (c : Int) (hc : 0 ≤ c ∧ c < 256) (i : Nat) (hi : i < 5) (w : World) (cap : Nat) : (convert 46 9 (.slice (some ⟨w.heap.size, 0, none⟩) 2 cap)).run Tryz.prog (w.alloc (.cells #[.int .u8 c, .int .u8 (8 * (i : Int))] 5)) = .ok (.string (rk c i)) (w.alloc (.cells #[.int .u8 c, .int .u8 (8 * (i : Int))] 5)) := by
  have e0 : ((UInt8.ofNat c.toNat).toNat : Int) = c := by rw [UInt8.toNat_ofNat']; omega
  have e1 : ((UInt8.ofNat (8 * i)).toNat : Int) = 8 * (i : Int) := by rw [UInt8.toNat_ofNat']; omega
  have h := run_convert_bytes_back (P := Tryz.prog) (w.alloc (.cells #[.int .u8 c, .int .u8 (8 * (i : Int))] 5)) 46 9 5 ⟨w.heap.size, 0, none⟩ cap [UInt8.ofNat c.toNat, UInt8.ofNat (8 * i)] Tryz.underlying46 Tryz.underlying5 Tryz.underlying9 (fun j hj => by
    rw [add_zero0]
    have h2 : j = 0 ∨ j = 1 := by simp at hj; omega
    rcases h2 with rfl | rfl
    · refine (cell_at (j := 0) (heap_alloc_new w _) rfl).trans ?_
      simp only [List.getElem_cons_zero]
      rw [e0]; rfl
    · refine (cell_at (j := 1) (heap_alloc_new w _) rfl).trans ?_
      simp only [List.getElem_cons_succ, List.getElem_cons_zero]
      rw [e1]; rfl)
  exact h

set_option maxRecDepth 100000 in
set_option maxHeartbeats 8000000 in
theorem room_walk (m c : Int) (hc : 0 ≤ c ∧ c < 256) (w : World) :
    Calls Tryz.prog 8 #[.int .i64 m, .int .u8 c] w fun e w' => e = .returned (.bool true) ∧ Below w.heap.size w w' := by
  go_enter Tryz.func8, Tryz.ntmps8
  go_wp2_with (first
    | (go_at_call 18; go_must (refine (mode_any m w).mono ?_; rintro e w0 ⟨b, rfl, rfl⟩))
    | (go_at_call 17; go_must (
        refine (fresh_any b w).mono ?_
        rintro e w1 ⟨a, s, rfl, hb1, hn1⟩
        have HN : Hid (Below w.heap.size w w1 ∧ NewStore w w1 a b s) := ⟨hb1, hn1⟩
        clear hb1 hn1)))
  obtain ⟨kk, hkk⟩ : ∃ kk, kk = w1.heap.size := ⟨_, rfl⟩
  obtain ⟨w2, hw2⟩ : ∃ w2, w2 = w1.alloc (.cells #[.string ⟨#[]⟩, .string ⟨#[]⟩, .string ⟨#[]⟩, .string ⟨#[]⟩, .string ⟨#[]⟩] 45) := ⟨_, rfl⟩
  have hak : a ≠ kk := by have := HN.out.2.live.haw; omega
  have hk0 : w.heap.size ≤ kk := by have := HN.out.1.size; omega
  have HS : Hid (Store w2 a b Sp.empty (Mine w kk) 0 ∧ Keys w w2 c kk 0) := by
    have hb2 : Below w1.heap.size w1 w2 := by rw [hw2]; exact (Below.refl _ w1).alloc (Nat.le_refl _) _
    refine ⟨(newStore_store HN.out.2 HN.out.1).grow hb2 _ (fun x hx => ?_), ?_, HN.out.1.trans (hb2.mono HN.out.1.size)⟩
    · rcases hx with hx | hx
      · exact .inl hx
      · exact .inr ⟨by omega, by rw [hw2, hx, hkk]; simp⟩
    · rw [hw2, hkk]; exact heap_alloc_new w1 _
  rw [← hw2, ← hkk]
  clear hw2 hkk HN
  go_loopw [7] (fun ix wr => ∃ i : Nat, i ≤ 5 ∧ ix = .int .i64 i ∧ Store wr a b Sp.empty (Mine w kk) 0 ∧ Keys w wr c kk i) (fun ix _ => 5 - (intOf ix).toNat)
  case atStart => exact ⟨0, by omega, rfl, HS.out⟩
  case round =>
    obtain ⟨i, hi, rfl, hS, hK⟩ := hrel
    by_cases hlt : i < 5
    · have hlt' : (i : Int) < 5 := by omega
      obtain ⟨u, hu⟩ := kc_at c i hlt
      have z0 := cell_at (j := i) hK.1 hu
      have y0 := frozen_at i hK.1
      have hkw := lt_of_block' hK.1
      have hcv := fun cap => conv_key c hc i hlt wr cap
      have hw8 : wrap64 (8 * (i : Int)) = 8 * (i : Int) := by simp only [wrap64]; omega
      have hw9 : IntKind.u8.wrap (8 * (i : Int)) = 8 * (i : Int) := by rw [IntKind.wrap_u8]; omega
      have HMO : Hid (∀ B, Store ((wr.setCell ⟨kk, i, none⟩ (.string (rk c i))).alloc B) a b Sp.empty (Mine w kk) 0 ∧ Keys w ((wr.setCell ⟨kk, i, none⟩ (.string (rk c i))).alloc B) c kk (i + 1)) := fun B => keys_more hlt hS hK hak hk0 B
      clear hS hK
      go_wp2
      refine ⟨⟨i + 1, by omega, by simp, ?_⟩, by simp [intOf]; omega⟩
      exact HMO.out _
    · obtain rfl : i = 5 := by omega
      have HS5 : Hid (Store wr a b Sp.empty (Mine w kk) 0 ∧ Keys w wr c kk 5) := ⟨hS, hK⟩
      have HI : Hid (RIdle wr a b (Mine w kk) c [] 0 0 0 0) := ⟨Sp.empty, hS, ⟨(fun i hi => by cases hi), List.nodup_nil, fun _ => rfl, fun key => by simp [Sp.empty, ksOf], rfl⟩, Nat.le_refl _, Nat.le_refl _, rfl⟩
      clear hS hK
      go_wp2_with (first
        | (go_at_call 19; go_must (
            refine (rBegin HI.out (by omega) (by omega)).mono ?_
            rintro e w3 ⟨rfl, hs, hst⟩
            have HB1 : Hid (RSit w3 a b (Mine w kk) c [] [] 0 1 0 1) := hs
            have HKB : Hid (Keys w w3 c kk 5) := HS5.out.2.stays hst
            clear hs hst)))
      clear HS5 HI
      go_loopw [9, 10] (fun ev ix wr => ∃ i : Nat, i ≤ 4 ∧ ev = .int .i64 0 ∧ ix = .int .i64 i ∧ RSit wr a b (Mine w kk) c (Ti i) (Ti i) i (1 + i) i 1 ∧ Keys w wr c kk 5) (fun _ ix _ => 4 - (intOf ix).toNat)
      case atStart => exact ⟨0, by omega, rfl, rfl, HB1.out, HKB.out⟩
      case round =>
        obtain ⟨i, hi, rfl, rfl, hS, hK⟩ := hrel
        have HSI : Hid (RSit wr a b (Mine w kk) c (Ti i) (Ti i) i (1 + i) i 1) := hS
        have HKI : Hid (Keys w wr c kk 5) := hK
        by_cases hlt : i < 4
        · have hlt' : (i : Int) < 4 := by omega
          have z0 : wr.cell? ⟨kk, i, none⟩ = some (.string (rk c i)) := by
            have h : i = 0 ∨ i = 1 ∨ i = 2 ∨ i = 3 := by omega
            rcases h with rfl | rfl | rfl | rfl
            · exact cell_at (j := 0) hK.1 rfl
            · exact cell_at (j := 1) hK.1 rfl
            · exact cell_at (j := 2) hK.1 rfl
            · exact cell_at (j := 3) hK.1 rfl
          obtain ⟨t1, t2, t3⟩ := Ti_step i hlt
          have KP : Hid (Calls Tryz.prog 20 #[.pointer (some ⟨a, 0, none⟩), .int .i64 1, .string (rk c i), .string ⟨#[118]⟩] wr fun e w' => e = .returned (.int .i64 0) ∧ RSit w' a b (Mine w kk) c (Ti (i + 1)) (Ti (i + 1)) (i + 1) (1 + i + 1) (i + 1) 1 ∧ Stays wr w' (Mine w kk)) := rPut (rWrite HSI.out (by omega) (by omega) (by omega) (by omega) i (by omega) (true, ⟨#[118]⟩) (by decide) rfl t1 (Ti (i + 1)) (Ti (i + 1)) t2 t3)
          clear hS hK t1 t2 t3
          go_wp2_with (first
            | (go_at_call 20; go_must (
                refine KP.out.mono ?_
                rintro e w4 ⟨rfl, hs, hst⟩
                have HS4 := @id (Hid (RSit w4 _ _ _ _ _ _ _ _ _ _)) hs
                have HK4 : Hid (Keys w w4 c kk 5) := HKI.out.stays hst
                clear hs hst)))
          exact ⟨⟨i + 1, by omega, rfl, by simp, HS4.out, HK4.out⟩, by simp [intOf]; omega⟩
        · obtain rfl : i = 4 := by omega
          have HS0 : Hid (RSit wr a b (Mine w kk) c [3, 2, 1, 0] [3, 2, 1, 0] 4 5 4 1) := HSI.out
          have HK0 : Hid (Keys w wr c kk 5) := HKI.out
          obtain ⟨u2, u4⟩ := HK0.out.at2
          clear hS hK HSI HKI HB1 HKB
          have tp1 : True := trivial
          have tc1 : True := trivial
          have tb2 : True := trivial
          have td1 : True := trivial
          have tp2 : True := trivial
          have td2 : True := trivial
          have tp3 : True := trivial
          have td3 : True := trivial
          have tc2 : True := trivial
          have tb3 : True := trivial
          have tp4 : True := trivial
          have tc3 : True := trivial
          go_wp2_with (first
      | (have _t := tp1; go_at_call 20; go_must (
          clear tp1
          refine (rPut (rFull HS0.out (by omega) (by omega) 4 (by omega) (true, ⟨#[118]⟩) (by decide) (by simp))).mono ?_
          rintro e x1 ⟨rfl, hs, hst⟩
          have HS1 : Hid (RSit x1 a b (Mine w kk) c [3, 2, 1, 0] [3, 2, 1, 0] 4 5 4 1) := hs
          have HK1 : Hid (Keys w x1 c kk 5) := HK0.out.stays hst
          obtain ⟨u2, u4⟩ := HK1.out.at2
          clear hs hst))
      | (have _t := tc1; go_at_call 21; go_must (
          clear tc1
          refine (rCommit HS1.out (by omega) (by omega)).mono ?_
          rintro e x2 ⟨rfl, hs, hst⟩
          have HS2 : Hid (RIdle x2 a b (Mine w kk) c [3, 2, 1, 0] 4 5 126 1) := hs
          have HK2 : Hid (Keys w x2 c kk 5) := HK1.out.stays hst
          obtain ⟨u2, u4⟩ := HK2.out.at2
          clear hs hst))
      | (have _t := tb2; go_at_call 19; go_must (
          clear tb2
          refine (rBegin HS2.out (by omega) (by omega)).mono ?_
          rintro e x3 ⟨rfl, hs, hst⟩
          have HS3 : Hid (RSit x3 a b (Mine w kk) c [3, 2, 1, 0] [3, 2, 1, 0] 4 6 126 2) := hs
          have HK3 : Hid (Keys w x3 c kk 5) := HK2.out.stays hst
          obtain ⟨u2, u4⟩ := HK3.out.at2
          clear hs hst))
      | (have _t := td1; go_at_call 24; go_must (
          clear td1
          refine (rDelete (rWrite HS3.out (by omega) (by omega) (by omega) (by omega) 2 (by omega) (false, ByteArray.empty) (by decide) rfl (by simp) [3, 2, 1, 0] [3, 1, 0] (by simp) (by simp))).mono ?_
          rintro e x4 ⟨rfl, hs, hst⟩
          have HS4 : Hid (RSit x4 a b (Mine w kk) c [3, 2, 1, 0] [3, 1, 0] 5 7 127 2) := hs
          have HK4 : Hid (Keys w x4 c kk 5) := HK3.out.stays hst
          obtain ⟨u2, u4⟩ := HK4.out.at2
          clear hs hst))
      | (have _t := tp2; go_at_call 20; go_must (
          clear tp2
          refine (rPut (rFull HS4.out (by omega) (by omega) 4 (by omega) (true, ⟨#[118]⟩) (by decide) (by simp))).mono ?_
          rintro e x5 ⟨rfl, hs, hst⟩
          have HS5 : Hid (RSit x5 a b (Mine w kk) c [3, 2, 1, 0] [3, 1, 0] 5 7 127 2) := hs
          have HK5 : Hid (Keys w x5 c kk 5) := HK4.out.stays hst
          obtain ⟨u2, u4⟩ := HK5.out.at2
          clear hs hst))
      | (have _t := td2; go_at_call 24; go_must (
          clear td2
          refine (rDelete (rFull HS5.out (by omega) (by omega) 4 (by omega) (false, ByteArray.empty) (by decide) (by simp))).mono ?_
          rintro e x6 ⟨rfl, hs, hst⟩
          have HS6 : Hid (RSit x6 a b (Mine w kk) c [3, 2, 1, 0] [3, 1, 0] 5 7 127 2) := hs
          have HK6 : Hid (Keys w x6 c kk 5) := HK5.out.stays hst
          obtain ⟨u2, u4⟩ := HK6.out.at2
          clear hs hst))
      | (have _t := tp3; go_at_call 20; go_must (
          clear tp3
          refine (rPut (rWrite HS6.out (by omega) (by omega) (by omega) (by omega) 2 (by omega) (true, ⟨#[119]⟩) (by decide) rfl (by simp) [3, 2, 1, 0] [2, 3, 1, 0] (by simp) (by simp))).mono ?_
          rintro e x7 ⟨rfl, hs, hst⟩
          have HS7 : Hid (RSit x7 a b (Mine w kk) c [3, 2, 1, 0] [2, 3, 1, 0] 6 8 128 2) := hs
          have HK7 : Hid (Keys w x7 c kk 5) := HK6.out.stays hst
          obtain ⟨u2, u4⟩ := HK7.out.at2
          clear hs hst))
      | (have _t := td3; go_at_call 24; go_must (
          clear td3
          refine (rDelete (rWrite HS7.out (by omega) (by omega) (by omega) (by omega) 2 (by omega) (false, ByteArray.empty) (by decide) rfl (by simp) [3, 2, 1, 0] [3, 1, 0] (by simp) (by simp))).mono ?_
          rintro e x8 ⟨rfl, hs, hst⟩
          have HS8 : Hid (RSit x8 a b (Mine w kk) c [3, 2, 1, 0] [3, 1, 0] 7 9 129 2) := hs
          have HK8 : Hid (Keys w x8 c kk 5) := HK7.out.stays hst
          obtain ⟨u2, u4⟩ := HK8.out.at2
          clear hs hst))
      | (have _t := tc2; go_at_call 21; go_must (
          clear tc2
          refine (rCommit HS8.out (by omega) (by omega)).mono ?_
          rintro e x9 ⟨rfl, hs, hst⟩
          have HS9 : Hid (RIdle x9 a b (Mine w kk) c [3, 1, 0] 7 9 251 2) := hs
          have HK9 : Hid (Keys w x9 c kk 5) := HK8.out.stays hst
          obtain ⟨u2, u4⟩ := HK9.out.at2
          clear hs hst))
      | (have _t := tb3; go_at_call 19; go_must (
          clear tb3
          refine (rBegin HS9.out (by omega) (by omega)).mono ?_
          rintro e x10 ⟨rfl, hs, hst⟩
          have HS10 : Hid (RSit x10 a b (Mine w kk) c [3, 1, 0] [3, 1, 0] 7 10 251 3) := hs
          have HK10 : Hid (Keys w x10 c kk 5) := HK9.out.stays hst
          obtain ⟨u2, u4⟩ := HK10.out.at2
          clear hs hst))
      | (have _t := tp4; go_at_call 20; go_must (
          clear tp4
          refine (rPut (rWrite HS10.out (by omega) (by omega) (by omega) (by omega) 4 (by omega) (true, ⟨#[118]⟩) (by decide) rfl (by simp) [4, 3, 1, 0] [4, 3, 1, 0] (by simp) (by simp))).mono ?_
          rintro e x11 ⟨rfl, hs, hst⟩
          have HS11 : Hid (RSit x11 a b (Mine w kk) c [4, 3, 1, 0] [4, 3, 1, 0] 8 11 252 3) := hs
          have HK11 : Hid (Keys w x11 c kk 5) := HK10.out.stays hst
          obtain ⟨u2, u4⟩ := HK11.out.at2
          clear hs hst))
      | (have _t := tc3; go_at_call 21; go_must (
          clear tc3
          refine (rCommit HS11.out (by omega) (by omega)).mono ?_
          rintro e x12 ⟨rfl, hs, hst⟩
          have HS12 : Hid (RIdle x12 a b (Mine w kk) c [4, 3, 1, 0] 8 11 374 3) := hs
          have HK12 : Hid (Keys w x12 c kk 5) := HK11.out.stays hst
          obtain ⟨u2, u4⟩ := HK12.out.at2
          clear hs hst))
      | (go_at_call 22; go_must (
          refine (rDump HS12.out).mono ?_
          rintro e x13 ⟨ad, cp, rfl, hb13⟩
          have HB13 : Hid (Keys w x13 c kk 5) := HK12.out.stays hb13
          clear hb13)))
          go_ret
          exact ⟨rfl, HB13.out.2⟩
end Go.Proofs.YtihbngfbcnojcaaGreat

namespace Go.Proofs.YtihbngfbcnojcaaGreat
open Go.RowKit

/-- Hidden's store, step by step. -/
def hA : Sp := Sp.empty.begin
def hpB (key one : ByteArray) : TxP := TxP.new.put hA key (true, one)
def hB (key one : ByteArray) : Sp := hA.write 1 TxP.new key (true, one)
def hC (key one : ByteArray) : Sp := (hB key one).commit 1 (hpB key one)
def hD (key one : ByteArray) : Sp := (hC key one).begin
def hE (key one : ByteArray) : Sp := (hD key one).begin
def hpF (key one two : ByteArray) : TxP := TxP.new.put (hE key one) key (true, two)
def hF (key one two : ByteArray) : Sp := (hE key one).write 2 TxP.new key (true, two)
def hG (key one two : ByteArray) : Sp := (hF key one two).read 2 (hpF key one two) key
def hpG (key one two : ByteArray) : TxP := (hpF key one two).look key
def hH (key one two : ByteArray) : Sp := (hG key one two).commit 2 (hpG key one two)
def hI (key one two : ByteArray) : Sp := (hG key one two).abort 2 (hpG key one two)

theorem hA_tx : hA.tx 1 = some TxP.new := by simp [hA, Sp.begin, Sp.empty]
theorem hB_tx (key one : ByteArray) : (hB key one).tx 1 = some (hpB key one) := by simp [hB, Sp.write, hpB]
theorem hC_tx (key one : ByteArray) (u : Int) : (hC key one).tx u = none := by
  by_cases h : u = 1
  · simp [hC, Sp.commit, h]
  · simp [hC, Sp.commit, h, hB, Sp.write, hA, Sp.begin, Sp.empty]
theorem hC_next (key one : ByteArray) : (hC key one).next = 1 := rfl
theorem hE_tx (key one : ByteArray) (u : Int) : (hE key one).tx u = if u = 3 then some TxP.new else if u = 2 then some TxP.new else none := by
  have e1 : ((hD key one).next : Int) + 1 = 3 := rfl
  have e2 : ((hC key one).next : Int) + 1 = 2 := rfl
  show (if u = ((hD key one).next : Int) + 1 then some TxP.new else if u = ((hC key one).next : Int) + 1 then some TxP.new else (hC key one).tx u) = _
  rw [e1, e2, hC_tx]
theorem hF_tx (key one two : ByteArray) (u : Int) : (hF key one two).tx u = if u = 2 then some (hpF key one two) else if u = 3 then some TxP.new else none := by
  show (if u = 2 then some (hpF key one two) else (hE key one).tx u) = _
  by_cases h : u = 2
  · rw [if_pos h, if_pos h]
  · rw [if_neg h, if_neg h, hE_tx, if_neg h]
theorem hG_tx (key one two : ByteArray) (u : Int) : (hG key one two).tx u = if u = 2 then some (hpG key one two) else if u = 3 then some TxP.new else none := by
  show (if u = 2 then some (hpG key one two) else (hF key one two).tx u) = _
  by_cases h : u = 2
  · rw [if_pos h, if_pos h]
  · rw [if_neg h, if_neg h, hF_tx, if_neg h]
theorem hH_tx (key one two : ByteArray) (u : Int) : (hH key one two).tx u = if u = 3 then some TxP.new else none := by
  show (if u = 2 then none else (hG key one two).tx u) = _
  by_cases h : u = 2
  · rw [if_pos h, h]; rfl
  · rw [if_neg h, hG_tx, if_neg h]
theorem hI_tx (key one two : ByteArray) (u : Int) : (hI key one two).tx u = if u = 3 then some TxP.new else none := by
  show (if u = 2 then none else (hG key one two).tx u) = _
  by_cases h : u = 2
  · rw [if_pos h, h]; rfl
  · rw [if_neg h, hG_tx, if_neg h]
theorem hE_comm (key one : ByteArray) (k : ByteArray) : (hE key one).comm k = if k = key then (true, one) else (false, ByteArray.empty) := by
  show ((if k = key then some (true, one) else none).getD (false, ByteArray.empty)) = _
  by_cases h : k = key
  · rw [if_pos h, if_pos h]; rfl
  · rw [if_neg h, if_neg h]; rfl
theorem hF_wrote (key one two : ByteArray) (k : ByteArray) : (hpF key one two).wrote k = if k = key then some (true, two) else none := rfl

theorem hA_may (key one : ByteArray) (hk : 1 ≤ key.size ∧ key.size ≤ 8) (hv : one.size ≤ 12) : MayPut hA 1 TxP.new key (true, one) := by
  have hno : ∀ u p, hA.tx u = some p → u = 1 ∧ p = TxP.new := fun u p hp => by
    have h1 : (if u = ((Sp.empty.next : Int) + 1) then some TxP.new else none) = some p := hp
    split at h1
    · rename_i e
      simp only [Option.some.injEq] at h1
      exact ⟨e, h1.symm⟩
    · cases h1
  refine ⟨hA_tx, hk, hv, rfl, fun u p hp hu => absurd (hno u p hp).1 hu, by show 0 + 1 < 120; omega, Only.room ⟨fun k _ => rfl, fun t p k hp hw => ?_⟩⟩
  rw [(hno t p hp).2] at hw
  cases hw
theorem hE_may (key one two : ByteArray) (hk : 1 ≤ key.size ∧ key.size ≤ 8) (hv : two.size ≤ 12) : MayPut (hE key one) 2 TxP.new key (true, two) := by
  have hno : ∀ u p, (hE key one).tx u = some p → p = TxP.new := fun u p hp => by
    rw [hE_tx] at hp
    split at hp
    · simp only [Option.some.injEq] at hp; exact hp.symm
    · split at hp
      · simp only [Option.some.injEq] at hp; exact hp.symm
      · cases hp
  refine ⟨by rw [hE_tx]; rfl, hk, hv, rfl, fun u p hp hu => by rw [hno u p hp]; rfl, by show 0 + 1 + 1 + 1 + 1 < 120; omega, Only.room ⟨fun k hk => by rw [hE_comm, if_neg hk], fun t p k hp hw => ?_⟩⟩
  rw [hno t p hp] at hw
  cases hw

/-- What the caller of Hidden has lies as it lay. -/
def Mine0 (w0 : World) (x : Nat) : Prop := x < w0.heap.size
theorem below_stays {w0 w w' : World} (h : Below w0.heap.size w0 w) (hs : Stays w w' (Mine0 w0)) : Below w0.heap.size w0 w' :=
  ⟨hs.1.os.trans h.os, hs.1.tape.trans h.tape, hs.1.output.trans h.output, by have := hs.1.size; have := h.size; omega, fun x hx => (hs.2 x hx).trans (h.block x hx)⟩
/-- A store, and what was there lies as it lay. -/
def Hs (w0 w : World) (a : Nat) (k : Bool) (P : Sp) (q : Nat) : Prop := Store w a k P (Mine0 w0) q ∧ Below w0.heap.size w0 w
theorem Hs.step {w0 w w' : World} {a : Nat} {k : Bool} {P P' : Sp} {q q' : Nat} (h : Hs w0 w a k P q) (t : Then w w' a k P' (Mine0 w0) q') : Hs w0 w' a k P' q' := ⟨t.1, below_stays h.2 t.2⟩
/-- .. and the blocks of L, with what lies in them. -/
def MineL (w0 : World) (L : List (Nat × Obj)) (x : Nat) : Prop := Mine0 w0 x ∨ ∃ o, (x, o) ∈ L
def Hl (w0 w : World) (a : Nat) (k : Bool) (P : Sp) (q : Nat) (L : List (Nat × Obj)) : Prop := Store w a k P (MineL w0 L) q ∧ Below w0.heap.size w0 w ∧ ∀ p ∈ L, w.heap[p.1]? = some p.2
theorem Hl.step {w0 w w' : World} {a : Nat} {k : Bool} {P P' : Sp} {q q' : Nat} {L : List (Nat × Obj)} (h : Hl w0 w a k P q L) (t : Then w w' a k P' (MineL w0 L) q') : Hl w0 w' a k P' q' L :=
  ⟨t.1, below_stays h.2.1 ⟨t.2.1, fun x hx => t.2.2 x (.inl hx)⟩, fun p hp => (t.2.2 p.1 (.inr ⟨p.2, hp⟩)).trans (h.2.2 p hp)⟩
theorem Hl.alloc {w0 w : World} {a : Nat} {k : Bool} {P : Sp} {q : Nat} {L : List (Nat × Obj)} (h : Hl w0 w a k P q L) (cs : Array Value) (ty : TypeId) : Hl w0 (w.alloc (.cells cs ty)) a k P q ((w.heap.size, .cells cs ty (0, 0)) :: L) := by
  have hb : Below w.heap.size w (w.alloc (.cells cs ty)) := (Below.refl _ w).alloc (Nat.le_refl _) _
  refine ⟨h.1.grow hb _ (fun x hx => ?_), h.2.1.trans (hb.mono h.2.1.size), fun p hp => ?_⟩
  · rcases hx with hx | ⟨o, hx⟩
    · exact .inl (.inl hx)
    · rcases List.mem_cons.1 hx with e | hx
      · have e1 : x = w.heap.size := congrArg Prod.fst e
        exact .inr ⟨by omega, by rw [e1]; simp⟩
      · exact .inl (.inr ⟨o, hx⟩)
  · rcases List.mem_cons.1 hp with rfl | hp
    · exact heap_alloc_new w _
    · have h1 := h.2.2 p hp
      exact (hb.block p.1 (lt_of_block' h1)).trans h1

theorem hDump {w0 w : World} {a : Nat} {k : Bool} {key one two : ByteArray} {q : Nat} (h : Hs w0 w a k (hF key one two) q) :
    Calls Tryz.prog 22 #[.pointer (some ⟨a, 0, none⟩)] w fun e w' => ∃ g cp cur, e = .returned (.tuple #[.slice (some ⟨g, 0, none⟩) 1 cp, .bool true]) ∧ Hl w0 w' a k (hF key one two) q [(g, .cells cur 43 (0, 0))] ∧ cur[0]? = some (.string key) ∧ cur[1]? = some (.string one) := by
  refine (keepDump h.1 (by show 3 ≤ 1000; omega)).mono ?_
  rintro e w' ⟨v, rfl, B, ps, h1, h2, h3, h4, h5, h6⟩
  have hps : ps = [(key, one)] := one_pair h3 (fun k' => by rw [h4]; exact hE_comm key one k')
  subst hps
  rcases h1.2 with ⟨_, h0⟩ | ⟨g, cp, cur, rfl, hb, hg, _, _, _, hcur⟩
  · cases h0
  have hc : ∀ (j : Nat) u, (pairCells [(key, one)])[j]? = some u → cur[j]? = some u := fun j u hu => by
    rw [← hcur, List.getElem?_take] at hu
    split at hu
    · simpa using hu
    · cases hu
  refine ⟨g, cp, cur, rfl, ⟨?_, below_stays h.2 h5.2, fun p hp => ?_⟩, hc 0 _ rfl, hc 1 _ rfl⟩
  · obtain ⟨s, L, R, hX⟩ := h6
    refine ⟨s, L, R, fun x hx => hX x ?_⟩
    rcases hx with hx | ⟨o, hx⟩
    · exact .inl hx
    · simp at hx
      exact .inr ⟨by omega, by rw [hx.1]; exact lt_of_block' hg⟩
  · simp at hp
    subst hp
    exact hg

/-- All that Hidden does with the store, in its order. -/
structure HidCalls (w : World) (a : Nat) (k : Bool) (key one two : ByteArray) : Prop where
  b1 : ∀ W, Hs w W a k Sp.empty 0 → Calls Tryz.prog 19 #[.pointer (some ⟨a, 0, none⟩)] W fun e w' => e = .returned (.tuple #[.int .i64 1, .int .i64 0]) ∧ Hs w w' a k hA 0
  p1 : ∀ W, Hs w W a k hA 0 → Calls Tryz.prog 20 #[.pointer (some ⟨a, 0, none⟩), .int .i64 1, .string key, .string one] W fun e w' => e = .returned (.int .i64 0) ∧ Hs w w' a k (hB key one) 1
  c1 : ∀ W, Hs w W a k (hB key one) 1 → Calls Tryz.prog 21 #[.pointer (some ⟨a, 0, none⟩), .int .i64 1] W fun e w' => e = .returned (.int .i64 0) ∧ Hs w w' a k (hC key one) 1
  b2 : ∀ W, Hs w W a k (hC key one) 1 → Calls Tryz.prog 19 #[.pointer (some ⟨a, 0, none⟩)] W fun e w' => e = .returned (.tuple #[.int .i64 2, .int .i64 0]) ∧ Hs w w' a k (hD key one) 1
  b3 : ∀ W, Hs w W a k (hD key one) 1 → Calls Tryz.prog 19 #[.pointer (some ⟨a, 0, none⟩)] W fun e w' => e = .returned (.tuple #[.int .i64 3, .int .i64 0]) ∧ Hs w w' a k (hE key one) 1
  p2 : ∀ W, Hs w W a k (hE key one) 1 → Calls Tryz.prog 20 #[.pointer (some ⟨a, 0, none⟩), .int .i64 2, .string key, .string two] W fun e w' => e = .returned (.int .i64 0) ∧ Hs w w' a k (hF key one two) 2
  g1 : ∀ W L, Hl w W a k (hF key one two) 2 L → Calls Tryz.prog 23 #[.pointer (some ⟨a, 0, none⟩), .int .i64 2, .string key] W fun e w' => e = .returned (.tuple #[.agg #[.bool true, .string two], .int .i64 0]) ∧ Hl w w' a k (hG key one two) 3 L
  g2 : ∀ W L, Hl w W a k (hG key one two) 3 L → Calls Tryz.prog 23 #[.pointer (some ⟨a, 0, none⟩), .int .i64 3, .string key] W fun e w' => e = .returned (.tuple #[.agg #[.bool false, .string ByteArray.empty], .int .i64 8]) ∧ Hl w w' a k (hG key one two) 3 L
  d1 : ∀ W L, Hl w W a k (hG key one two) 3 L → Calls Tryz.prog 24 #[.pointer (some ⟨a, 0, none⟩), .int .i64 3, .string key] W fun e w' => e = .returned (.int .i64 8) ∧ Hl w w' a k (hG key one two) 3 L
  c2 : ∀ W L, Hl w W a k (hG key one two) 3 L → Calls Tryz.prog 21 #[.pointer (some ⟨a, 0, none⟩), .int .i64 2] W fun e w' => e = .returned (.int .i64 0) ∧ Hl w w' a k (hH key one two) 3 L
  a2 : ∀ W L, Hl w W a k (hG key one two) 3 L → Calls Tryz.prog 25 #[.pointer (some ⟨a, 0, none⟩), .int .i64 2] W fun e w' => e = .returned (.int .i64 0) ∧ Hl w w' a k (hI key one two) 3 L
  g3 : ∀ W L, Hl w W a k (hH key one two) 3 L → Calls Tryz.prog 23 #[.pointer (some ⟨a, 0, none⟩), .int .i64 3, .string key] W fun e w' => e = .returned (.tuple #[.agg #[.bool true, .string two], .int .i64 0]) ∧ Below w.heap.size w w'
  g4 : ∀ W L, Hl w W a k (hI key one two) 3 L → Calls Tryz.prog 23 #[.pointer (some ⟨a, 0, none⟩), .int .i64 3, .string key] W fun e w' => e = .returned (.tuple #[.agg #[.bool true, .string one], .int .i64 0]) ∧ Below w.heap.size w w'

theorem hidCalls (w : World) (a : Nat) (k : Bool) (key one two : ByteArray) (hk : 1 ≤ key.size ∧ key.size ≤ 8) (h1 : one.size ≤ 12) (h2 : two.size ≤ 12) : HidCalls w a k key one two := by
  refine ⟨fun W h => ?_, fun W h => ?_, fun W h => ?_, fun W h => ?_, fun W h => ?_, fun W h => ?_, fun W L h => ?_, fun W L h => ?_, fun W L h => ?_, fun W L h => ?_, fun W L h => ?_, fun W L h => ?_, fun W L h => ?_⟩
  · refine (sBegin h.1 (by show 0 < 4; omega) (by show 0 < 120; omega) (by show 0 ≤ 200; omega)).mono ?_
    rintro e w' ⟨rfl, h3⟩
    exact ⟨rfl, h.step h3⟩
  · refine rPut ((write_ok h.1 (by omega) (by show 0 ≤ 390; omega) 1 (by omega) TxP.new key (true, one) (hA_may key one hk h1)).mono ?_)
    rintro e w' ⟨r, rfl, rfl, h3⟩
    exact ⟨0, rfl, rfl, h.step h3⟩
  · refine (commit_ok h.1 (by show 0 + 1 ≤ 270; omega) 1 (by omega) (hpB key one) (hB_tx key one)).mono ?_
    rintro e w' ⟨rfl, h3⟩
    exact ⟨rfl, h.step h3⟩
  · refine (sBegin h.1 (by show 0 + 1 - 1 < 4; omega) (by show 0 + 1 + 1 < 120; omega) (by show 1 ≤ 200; omega)).mono ?_
    rintro e w' ⟨rfl, h3⟩
    exact ⟨rfl, h.step h3⟩
  · refine (sBegin h.1 (by show 0 + 1 - 1 + 1 < 4; omega) (by show 0 + 1 + 1 + 1 < 120; omega) (by show 2 ≤ 200; omega)).mono ?_
    rintro e w' ⟨rfl, h3⟩
    exact ⟨rfl, h.step h3⟩
  · refine rPut ((write_ok h.1 (by omega) (by show 0 + 1 + 122 ≤ 390; omega) 2 (by omega) TxP.new key (true, two) (hE_may key one two hk h2)).mono ?_)
    rintro e w' ⟨r, rfl, rfl, h3⟩
    exact ⟨0, rfl, rfl, h.step h3⟩
  · have K := get_ok h.1 (by omega) 2 (by omega) (hpF key one two) (by rw [hF_tx]; rfl) key hk (fun u p' hp hu => by
      rw [hF_tx, if_neg hu] at hp
      split at hp
      · simp only [Option.some.injEq] at hp; subst hp; simp [TxP.hold, TxP.new]
      · cases hp)
    rw [hF_wrote, if_pos rfl] at K
    refine K.mono ?_
    rintro e w' ⟨rfl, h3⟩
    exact ⟨rfl, h.step h3⟩
  · refine (get_locked h.1 3 (by omega) TxP.new (by rw [hG_tx]; rfl) key hk 2 (hpG key one two) (by rw [hG_tx]; rfl) (by omega) (by simp [TxP.hold, hpG, TxP.look, hF_wrote])).mono ?_
    rintro e w' ⟨rfl, h3⟩
    exact ⟨rfl, h.step h3⟩
  · refine rDelete ((write_locked h.1 (by omega) 3 ⟨by omega, by omega⟩ TxP.new (by rw [hG_tx]; rfl) key hk (false, ByteArray.empty) (by show (0 : Nat) ≤ 12; omega) 2 (hpG key one two) (by rw [hG_tx]; rfl) (by omega) (by simp [TxP.hold, hpG, TxP.look, hF_wrote])).mono ?_)
    rintro e w' ⟨r, rfl, rfl, h3⟩
    exact ⟨8, rfl, rfl, h.step h3⟩
  · refine (commit_ok h.1 (by show 0 + 1 + 122 + 1 ≤ 270; omega) 2 (by omega) (hpG key one two) (by rw [hG_tx]; rfl)).mono ?_
    rintro e w' ⟨rfl, h3⟩
    exact ⟨rfl, h.step h3⟩
  · refine (abort_ok h.1 2 (by omega) (hpG key one two) (by rw [hG_tx]; rfl) (by show 0 + 1 + 122 + 1 + 1 + 1 ≤ 391; omega)).mono ?_
    rintro e w' ⟨rfl, h3⟩
    exact ⟨rfl, h.step h3⟩
  · have K := get_ok h.1 (by omega) 3 (by omega) TxP.new (by rw [hH_tx]; rfl) key hk (fun u p' hp hu => by rw [hH_tx, if_neg hu] at hp; cases hp)
    have e1 : ((TxP.new.wrote key).getD ((hH key one two).comm key)) = (true, two) := by
      show (((hpF key one two).wrote key).getD ((hE key one).comm key)) = _
      rw [hF_wrote, if_pos rfl]; rfl
    rw [e1] at K
    refine K.mono ?_
    rintro e w' ⟨rfl, h3⟩
    exact ⟨rfl, (h.step h3).2.1⟩
  · have K := get_ok h.1 (by omega) 3 (by omega) TxP.new (by rw [hI_tx]; rfl) key hk (fun u p' hp hu => by rw [hI_tx, if_neg hu] at hp; cases hp)
    have e1 : ((TxP.new.wrote key).getD ((hI key one two).comm key)) = (true, one) := by
      show (hE key one).comm key = _
      rw [hE_comm, if_pos rfl]
    rw [e1] at K
    refine K.mono ?_
    rintro e w' ⟨rfl, h3⟩
    exact ⟨rfl, (h.step h3).2.1⟩
end Go.Proofs.YtihbngfbcnojcaaGreat

namespace Go.Proofs.YtihbngfbcnojcaaGreat
open Go.RowKit

theorem hEmpty {w w1 : World} {a : Nat} {b : Bool} {s : Sv} (h1 : Below w.heap.size w w1) (h2 : NewStore w w1 a b s) : Hs w w1 a b Sp.empty 0 := ⟨newStore_store h2 h1, h1⟩

/-- Sizes that Hidden takes, or the first that it does not. -/
def HSizes (key one two : ByteArray) : Nat → Prop
  | 0 => 1 ≤ key.size ∧ key.size ≤ 8 ∧ one.size ≤ 12 ∧ two.size ≤ 12
  | 1 => key.size < 1
  | 2 => 1 ≤ key.size ∧ 8 < key.size
  | 3 => 1 ≤ key.size ∧ key.size ≤ 8 ∧ 12 < one.size
  | _ => 1 ≤ key.size ∧ key.size ≤ 8 ∧ one.size ≤ 12 ∧ 12 < two.size
theorem hSizes_any (key one two : ByteArray) : ∃ i, i < 5 ∧ HSizes key one two i := by
  by_cases h1 : key.size < 1
  · exact ⟨1, by omega, h1⟩
  · by_cases h2 : 8 < key.size
    · exact ⟨2, by omega, by omega, h2⟩
    · by_cases h3 : 12 < one.size
      · exact ⟨3, by omega, by omega, by omega, h3⟩
      · by_cases h4 : 12 < two.size
        · exact ⟨4, by omega, by omega, by omega, by omega, h4⟩
        · exact ⟨0, by omega, by omega, by omega, by omega, by omega⟩

set_option maxRecDepth 100000 in
set_option maxHeartbeats 4000000 in
theorem hidden_0c (m : Int) (key one two : ByteArray) (w : World) (hz : HSizes key one two 0) :
    Calls Tryz.prog 7 #[.int .i64 m, .string key, .string one, .string two, .bool true] w fun e w' => e = .returned (.bool true) ∧ Below w.heap.size w w' := by
  obtain ⟨z1, z2, z3, z4⟩ := hz
  have n1 : ¬ (key.size : Int) < 1 := by omega
  have n2 : ¬ (8 : Int) < (key.size : Int) := by omega
  have n3 : ¬ (12 : Int) < (one.size : Int) := by omega
  have n4 : ¬ (12 : Int) < (two.size : Int) := by omega
  have HCALL : Hid (∀ a k, HidCalls w a k key one two) := fun a k => hidCalls w a k key one two ⟨z1, z2⟩ z3 z4
  have tb1 : True := trivial
  have tp1 : True := trivial
  have tc1 : True := trivial
  have tb2 : True := trivial
  have tb3 : True := trivial
  have tp2 : True := trivial
  have tg1 : True := trivial
  have tg2 : True := trivial
  go_enter Tryz.func7, Tryz.ntmps7
  go_wp2_with (first
    | (go_at_call 18; go_must (refine (mode_any m w).mono ?_; rintro e w0 ⟨b, rfl, rfl⟩))
    | (go_at_call 17; go_must (
        refine (fresh_any b w).mono ?_
        rintro e w1 ⟨a, s, rfl, hb1, hn1⟩
        have H0 : Hid (Hs w w1 a b Sp.empty 0) := hEmpty hb1 hn1
        clear hb1 hn1))
    | (have _t := tb1; go_at_call 19; go_must (
        clear tb1
        refine ((HCALL.out a b).b1 _ H0.out).mono ?_
        rintro e x1 ⟨rfl, hs⟩
        have H1 := @id (Hid (Hs _ x1 _ _ _ _)) hs
        clear hs))
    | (have _t := tp1; go_at_call 20; go_must (
        clear tp1
        refine ((HCALL.out a b).p1 _ H1.out).mono ?_
        rintro e x2 ⟨rfl, hs⟩
        have H2 := @id (Hid (Hs _ x2 _ _ _ _)) hs
        clear hs))
    | (have _t := tc1; go_at_call 21; go_must (
        clear tc1
        refine ((HCALL.out a b).c1 _ H2.out).mono ?_
        rintro e x3 ⟨rfl, hs⟩
        have H3 := @id (Hid (Hs _ x3 _ _ _ _)) hs
        clear hs))
    | (have _t := tb2; go_at_call 19; go_must (
        clear tb2
        refine ((HCALL.out a b).b2 _ H3.out).mono ?_
        rintro e x4 ⟨rfl, hs⟩
        have H4 := @id (Hid (Hs _ x4 _ _ _ _)) hs
        clear hs))
    | (have _t := tb3; go_at_call 19; go_must (
        clear tb3
        refine ((HCALL.out a b).b3 _ H4.out).mono ?_
        rintro e x5 ⟨rfl, hs⟩
        have H5 := @id (Hid (Hs _ x5 _ _ _ _)) hs
        clear hs))
    | (have _t := tp2; go_at_call 20; go_must (
        clear tp2
        refine ((HCALL.out a b).p2 _ H5.out).mono ?_
        rintro e x6 ⟨rfl, hs⟩
        have H6 := @id (Hid (Hs _ x6 _ _ _ _)) hs
        clear hs))
    | (go_at_call 22; go_must (
        refine (hDump H6.out).mono ?_
        rintro e x7 ⟨gg, cp, cur, rfl, hs, hc0, hc1⟩
        have H7 := @id (Hid (Hl _ x7 _ _ _ _ _)) hs
        have HC : Hid (cur[0]? = some (.string key) ∧ cur[1]? = some (.string one)) := ⟨hc0, hc1⟩
        clear hs hc0 hc1))
    | (have _t := tg1; go_at_call 23; go_must (
        clear tg1
        refine ((HCALL.out a b).g1 _ _ H7.out).mono ?_
        rintro e x8 ⟨rfl, hs⟩
        have H8 := @id (Hid (Hl _ x8 _ _ _ _ _)) hs
        clear hs))
    | (have _t := tg2; go_at_call 23; go_must (
        clear tg2
        refine ((HCALL.out a b).g2 _ _ (H8.out.alloc _ _)).mono ?_
        rintro e x9 ⟨rfl, hs⟩
        have H9 := @id (Hid (Hl _ x9 _ _ _ _ _)) hs
        clear hs))
    | (go_at_call 24; go_must (
        refine ((HCALL.out a b).d1 _ _ (H9.out.alloc _ _)).mono ?_
        rintro e x10 ⟨rfl, hs⟩
        have H10 := @id (Hid (Hl _ x10 _ _ _ _ _)) hs
        have hq0 : x10.heap[gg]? = some (.cells cur 43 (0, 0)) := hs.2.2 _ (List.mem_cons_of_mem _ (List.mem_cons_of_mem _ (List.mem_singleton.2 rfl)))
        have hq1 : x10.heap[x8.heap.size]? = some (.cells #[.bool true, .string two] 38 (0, 0)) := hs.2.2 _ (List.mem_cons_of_mem _ (List.mem_cons_self ..))
        have c0 := cell_at (j := 0) hq0 HC.out.1
        have c1 := cell_at (j := 1) hq0 HC.out.2
        have c2 := cell_at (j := 0) hq1 rfl
        have c3 := cell_at (j := 1) hq1 rfl
        clear hq0 hq1
        clear hs))
    | (go_at_call 21; go_must (
        refine ((HCALL.out a b).c2 _ _ H10.out).mono ?_
        rintro e x11 ⟨rfl, hs⟩
        have H11 := @id (Hid (Hl _ x11 _ _ _ _ _)) hs
        clear hs))
    | (have _t := H11; go_at_call 23; go_must (
        refine ((HCALL.out a b).g3 _ _ H11.out).mono ?_
        rintro e x12 ⟨rfl, hs⟩
        have H12 : Hid (Below w.heap.size w x12) := hs
        clear hs)))
  go_ret
  exact ⟨rfl, H12.out.alloc H12.out.size _⟩

set_option maxRecDepth 100000 in
set_option maxHeartbeats 4000000 in
theorem hidden_0a (m : Int) (key one two : ByteArray) (w : World) (hz : HSizes key one two 0) :
    Calls Tryz.prog 7 #[.int .i64 m, .string key, .string one, .string two, .bool false] w fun e w' => e = .returned (.bool true) ∧ Below w.heap.size w w' := by
  obtain ⟨z1, z2, z3, z4⟩ := hz
  have n1 : ¬ (key.size : Int) < 1 := by omega
  have n2 : ¬ (8 : Int) < (key.size : Int) := by omega
  have n3 : ¬ (12 : Int) < (one.size : Int) := by omega
  have n4 : ¬ (12 : Int) < (two.size : Int) := by omega
  have HCALL : Hid (∀ a k, HidCalls w a k key one two) := fun a k => hidCalls w a k key one two ⟨z1, z2⟩ z3 z4
  have tb1 : True := trivial
  have tp1 : True := trivial
  have tc1 : True := trivial
  have tb2 : True := trivial
  have tb3 : True := trivial
  have tp2 : True := trivial
  have tg1 : True := trivial
  have tg2 : True := trivial
  go_enter Tryz.func7, Tryz.ntmps7
  go_wp2_with (first
    | (go_at_call 18; go_must (refine (mode_any m w).mono ?_; rintro e w0 ⟨b, rfl, rfl⟩))
    | (go_at_call 17; go_must (
        refine (fresh_any b w).mono ?_
        rintro e w1 ⟨a, s, rfl, hb1, hn1⟩
        have H0 : Hid (Hs w w1 a b Sp.empty 0) := hEmpty hb1 hn1
        clear hb1 hn1))
    | (have _t := tb1; go_at_call 19; go_must (
        clear tb1
        refine ((HCALL.out a b).b1 _ H0.out).mono ?_
        rintro e x1 ⟨rfl, hs⟩
        have H1 := @id (Hid (Hs _ x1 _ _ _ _)) hs
        clear hs))
    | (have _t := tp1; go_at_call 20; go_must (
        clear tp1
        refine ((HCALL.out a b).p1 _ H1.out).mono ?_
        rintro e x2 ⟨rfl, hs⟩
        have H2 := @id (Hid (Hs _ x2 _ _ _ _)) hs
        clear hs))
    | (have _t := tc1; go_at_call 21; go_must (
        clear tc1
        refine ((HCALL.out a b).c1 _ H2.out).mono ?_
        rintro e x3 ⟨rfl, hs⟩
        have H3 := @id (Hid (Hs _ x3 _ _ _ _)) hs
        clear hs))
    | (have _t := tb2; go_at_call 19; go_must (
        clear tb2
        refine ((HCALL.out a b).b2 _ H3.out).mono ?_
        rintro e x4 ⟨rfl, hs⟩
        have H4 := @id (Hid (Hs _ x4 _ _ _ _)) hs
        clear hs))
    | (have _t := tb3; go_at_call 19; go_must (
        clear tb3
        refine ((HCALL.out a b).b3 _ H4.out).mono ?_
        rintro e x5 ⟨rfl, hs⟩
        have H5 := @id (Hid (Hs _ x5 _ _ _ _)) hs
        clear hs))
    | (have _t := tp2; go_at_call 20; go_must (
        clear tp2
        refine ((HCALL.out a b).p2 _ H5.out).mono ?_
        rintro e x6 ⟨rfl, hs⟩
        have H6 := @id (Hid (Hs _ x6 _ _ _ _)) hs
        clear hs))
    | (go_at_call 22; go_must (
        refine (hDump H6.out).mono ?_
        rintro e x7 ⟨gg, cp, cur, rfl, hs, hc0, hc1⟩
        have H7 := @id (Hid (Hl _ x7 _ _ _ _ _)) hs
        have HC : Hid (cur[0]? = some (.string key) ∧ cur[1]? = some (.string one)) := ⟨hc0, hc1⟩
        clear hs hc0 hc1))
    | (have _t := tg1; go_at_call 23; go_must (
        clear tg1
        refine ((HCALL.out a b).g1 _ _ H7.out).mono ?_
        rintro e x8 ⟨rfl, hs⟩
        have H8 := @id (Hid (Hl _ x8 _ _ _ _ _)) hs
        clear hs))
    | (have _t := tg2; go_at_call 23; go_must (
        clear tg2
        refine ((HCALL.out a b).g2 _ _ (H8.out.alloc _ _)).mono ?_
        rintro e x9 ⟨rfl, hs⟩
        have H9 := @id (Hid (Hl _ x9 _ _ _ _ _)) hs
        clear hs))
    | (go_at_call 24; go_must (
        refine ((HCALL.out a b).d1 _ _ (H9.out.alloc _ _)).mono ?_
        rintro e x10 ⟨rfl, hs⟩
        have H10 := @id (Hid (Hl _ x10 _ _ _ _ _)) hs
        have hq0 : x10.heap[gg]? = some (.cells cur 43 (0, 0)) := hs.2.2 _ (List.mem_cons_of_mem _ (List.mem_cons_of_mem _ (List.mem_singleton.2 rfl)))
        have hq1 : x10.heap[x8.heap.size]? = some (.cells #[.bool true, .string two] 38 (0, 0)) := hs.2.2 _ (List.mem_cons_of_mem _ (List.mem_cons_self ..))
        have c0 := cell_at (j := 0) hq0 HC.out.1
        have c1 := cell_at (j := 1) hq0 HC.out.2
        have c2 := cell_at (j := 0) hq1 rfl
        have c3 := cell_at (j := 1) hq1 rfl
        clear hq0 hq1
        clear hs))
    | (go_at_call 25; go_must (
        refine ((HCALL.out a b).a2 _ _ H10.out).mono ?_
        rintro e x11 ⟨rfl, hs⟩
        have H11 := @id (Hid (Hl _ x11 _ _ _ _ _)) hs
        clear hs))
    | (have _t := H11; go_at_call 23; go_must (
        refine ((HCALL.out a b).g4 _ _ H11.out).mono ?_
        rintro e x12 ⟨rfl, hs⟩
        have H12 : Hid (Below w.heap.size w x12) := hs
        clear hs)))
  go_ret
  exact ⟨rfl, H12.out.alloc H12.out.size _⟩
end Go.Proofs.YtihbngfbcnojcaaGreat
