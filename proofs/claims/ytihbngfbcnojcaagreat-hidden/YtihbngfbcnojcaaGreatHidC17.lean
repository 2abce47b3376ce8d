import Derived.Test.YtihbngfbcnojcaaGreatHidC16
namespace Go.Proofs.YtihbngfbcnojcaaGreat
open Go.RowKit

def zeroEnt : EntV := ⟨0, 0, 0, 0, ByteArray.empty, false, ByteArray.empty, false, ByteArray.empty⟩
theorem zeroEnt_seal : sealed 0 0 zeroEnt.body = List.replicate 64 (.int .u8 0) := by kernel_rfl

theorem Logd.readsAt {s : Sv} {lg : List (EntV × Int)} (h : Logd s lg) (g : Good s) (i : Nat) (hi : i < lg.length) : ReadsAs s.D s.ws i s.start lg[i].2 lg[i].1 := by
  obtain ⟨h1, h2, h3, h4, h5, h6⟩ := h.at' i hi
  exact ⟨h1, g.st.1, g.st.2, h2, h3, h4, h5, h6⟩
theorem Logd.readsEnd {s : Sv} {lg : List (EntV × Int)} (h : Logd s lg) (hl : lg.length < 400) : ReadsAs s.D s.ws lg.length 0 0 zeroEnt :=
  ⟨by rw [zeroEnt_seal]; exact h.rest _ (by rw [h.len]; exact Nat.le_refl _) hl, by omega, by omega, by omega, by omega, ⟨by simp [zeroEnt], by simp [zeroEnt], by simp [zeroEnt], by simp [zeroEnt], by simp [zeroEnt], by simp [zeroEnt], by simp [zeroEnt]⟩, fun _ => rfl, fun _ => rfl⟩

set_option maxRecDepth 100000 in
set_option maxHeartbeats 1000000 in
/-- (*journal).entries of a live store. -/
theorem entries_step {w : World} {s : Sv} {lg : List (EntV × Int)} (h : Lies w s) (g : Good s) (hl : Logd s lg) :
    Calls Tryz.prog 290 #[.pointer (some ⟨s.kb, 0, none⟩)] w fun e w' => ∃ v, e = .returned v ∧ w'.ownsRow w.heap.size 152 9 v lg.length (logCells (lg.map (·.1))) ∧ Below w.heap.size w w' := by
  have c0 : w.cell? ⟨s.kb, 0, none⟩ = some (.pointer (some ⟨s.vb, 0, none⟩)) := cell_at (h.comp .kind) (cells_of s (by omega) rfl)
  have v1 : w.cell? ⟨s.vb, 1, none⟩ = some (.int .u32 s.start) := cell_at (h.comp .vol) rfl
  have hlen : lg.length < 400 := by rw [hl.len]; have := g.ln; omega
  have hb : Below w.heap.size w w.drew := (Below.refl _ w).drew
  have hst := hl.st
  have K := entriesOf_any (w := w.drew) s.vb s.db s.D s.ws s.v s.start 0 0 zeroEnt lg (cell_at ((h.below hb).comp .vol) rfl) ((h.below hb).disk g) hlen (fun i hi => hl.readsAt g i hi) (hl.readsEnd hlen) (by omega)
  have HK : Hid (Calls Tryz.prog 103 #[.pointer (some ⟨s.vb, 0, none⟩), .int .u32 s.start] w.drew fun e w' => ∃ v, e = .returned v ∧ w'.ownsRow w.heap.size 152 9 v lg.length (logCells (lg.map (·.1))) ∧ Below w.heap.size w w') := by
    refine K.mono ?_
    rintro e w' ⟨v, h1, h2, h3⟩
    exact ⟨v, h1, h2, hb.trans h3⟩
  have HC : Hid (∀ W, Below w.heap.size w W → W.cell? ⟨s.kb, 0, none⟩ = some (.pointer (some ⟨s.vb, 0, none⟩)) ∧ W.cell? ⟨s.vb, 1, none⟩ = some (.int .u32 s.start)) := fun W hW => ⟨(hW.cell (p := ⟨s.kb, 0, none⟩) (h.lt .kind _ rfl)).trans c0, (hW.cell (p := ⟨s.vb, 1, none⟩) (h.lt .vol _ rfl)).trans v1⟩
  generalize hkb : s.kb = kb at c0 HC ⊢
  generalize hvb : s.vb = vb at c0 v1 HC HK
  generalize hss : s.start = st at v1 HC HK
  clear h g hl K hb
  go_enter Tryz.func290, Tryz.ntmps290
  go_wp2
  go_region_held3 (fun w' => w'.cell? ⟨kb, 0, none⟩ = some (.pointer (some ⟨vb, 0, none⟩)) ∧ w'.cell? ⟨vb, 1, none⟩ = some (.int .u32 st))
    (go_keep)
    (first
      | (go_at_call 103; go_must (
          refine HK.out.mono ?_
          rintro e w1 ⟨v, rfl, h1, h2⟩
          obtain ⟨d0, d1⟩ := HC.out w1 h2
          have HX : Hid (w1.ownsRow w.heap.size 152 9 v lg.length (logCells (lg.map (·.1))) ∧ Below w.heap.size w w1) := ⟨h1, h2⟩
          clear h1 h2)))
  all_goals
    go_wp2
    go_ret
    exact ⟨v, rfl, HX.out⟩

set_option maxRecDepth 100000 in
set_option maxHeartbeats 4000000 in
/-- (*steal).Committed where no transaction is open. -/
theorem stealCommitted_idle {w : World} {s : Sv} {lg : List (EntV × Int)} (h : Lies w s) (g : Good s) (hb : Buck s) (hl : Logd s lg) (hno : Maps.size s.mo.M = 0) :
    Calls Tryz.prog 301 #[.pointer (some ⟨s.kb, 0, none⟩)] w fun e w' => ∃ v B ps s', e = .returned v ∧ w.heap.size ≤ B ∧ NewPairs w' B s' v ps ∧ (∀ key, under ps key = under (s.cont (bucket key)) key) ∧ Paged s s' ∧ Goes w w' s s' := by
  have hbd : Below w.heap.size w w.drew := (Below.refl _ w).drew
  have KC : Hid (Calls Tryz.prog 79 #[.pointer (some ⟨s.kb, 2, none⟩)] w.drew fun e w' => e = .returned (.map (some w.heap.size)) ∧ ∃ n M s', CellsAt w' w.heap.size n M (colTo s 8 0) ∧ Paged s s' ∧ Goes w w' s s') := by
    refine (cells_step (h.below hbd) g).mono ?_
    rintro e w' ⟨h1, n, M, s', h2, h3, h4, _⟩
    exact ⟨h1, n, M, s', h2, h3, (Goes.of_below h g hbd).trans h4⟩
  have KE : Hid (∀ W s', Paged s s' → Goes w W s s' → Calls Tryz.prog 290 #[.pointer (some ⟨s.kb, 0, none⟩)] W fun e w' => ∃ v, e = .returned v ∧ Below W.heap.size W w') := fun W s' hp hg => by
    have := entries_step hg.lies hg.good (hl.paged hp)
    rw [hp.same.1] at this
    refine this.mono ?_
    rintro e w' ⟨v, h1, _, h2⟩
    exact ⟨v, h1, h2⟩
  have HMO : Hid (∀ W s', Paged s s' → Goes w W s s' → W.cell? ⟨s.kb, 5, none⟩ = some (.map (some s.mo.b)) ∧ MapOf W 3 s.mo.b s.mo.n s.mo.M) := fun W s' hp hg => by
    obtain ⟨e1, e2, _⟩ := hp.same
    have a1 : W.cell? ⟨s'.kb, 5, none⟩ = some (.map (some s'.mo.b)) := cell_at (hg.lies.comp .kind) (cells_of s' (j := 5) (by omega) rfl)
    have a2 : MapOf W 3 s'.mo.b s'.mo.n s'.mo.M := hg.lies.comp .mo
    rw [e1, e2] at a1
    rw [e2] at a2
    exact ⟨a1, a2⟩
  have HU : Hid (∀ key, under (colTo s 8 0).reverse key = under (s.cont (bucket key)) key) := colTo_under g hb
  have HN : Hid ((colTo s 8 0).length ≤ 1000) := by
    have h3 : ∀ m, m ≤ 8 → ((List.range m).flatMap s.cont).length ≤ 4 * m := fun m => by
      induction m with
      | zero => intro _; simp
      | succ m ih =>
        intro hm
        rw [List.range_succ, List.flatMap_append, List.length_append]
        have := ih (by omega)
        have := (g.rise m (by omega)).2.1
        have e1 : ([m].flatMap s.cont).length = (s.cont m).length := by simp
        omega
    have := h3 8 (by omega)
    show (colTo s 8 0).length ≤ 1000
    unfold colTo
    simp only [List.length_append, List.take_zero, List.length_nil]
    omega
  have hK := Maps.int_keyed (P := Tryz.prog) Tryz.underlying3
  have hnone : ∀ kl, Maps.has s.mo.M kl = false := fun kl => by
    obtain ⟨es, h1, _⟩ := mo_tidy h
    rw [h1] at hno ⊢
    have : es = [] := List.length_eq_zero_iff.1 hno
    rw [this]; rfl
  have HNO : Hid (∀ kl, Maps.has s.mo.M kl = false) := hnone
  generalize hkb : s.kb = kb at KC KE HMO ⊢
  clear h g hb hl hbd hno hnone
  go_enter Tryz.func301, Tryz.ntmps301
  go_wp2
  go_region_held3 (fun w' => True)
    (exact trivial)
    (first
      | (go_at_call 79; go_must (
          refine KC.out.mono ?_
          rintro e w1 ⟨rfl, n, M, s', h1, h2, h3⟩
          have HX : Hid (CellsAt w1 w.heap.size n M (colTo s 8 0) ∧ Paged s s' ∧ Goes w w1 s s') := ⟨h1, h2, h3⟩
          clear h1 h2 h3))
      | (go_at_call 290; go_must (
          refine (KE.out w1 s' HX.out.2.1 HX.out.2.2).mono ?_
          rintro e w2 ⟨v2, rfl, hb2⟩
          have HY : Hid (CellsAt w2 w.heap.size n M (colTo s 8 0) ∧ Paged s s' ∧ Goes w w2 s s') := ⟨⟨HX.out.1.map.below hb2, HX.out.1.ok, HX.out.1.num, HX.out.1.says⟩, HX.out.2.1, HX.out.2.2.on_below hb2⟩
          obtain ⟨c5, hmo2⟩ := HMO.out w2 s' HX.out.2.1 (HX.out.2.2.on_below hb2)
          have HM2 : Hid (MapOf w2 3 s.mo.b s.mo.n s.mo.M) := hmo2
          clear hb2 hmo2)))
  all_goals
    go_wp2_with (first
      | (at_range; refine wpList_range_own _ rfl _ 227 rfl 3 356 hK Tryz.underlying227 asIs s.mo.b s.mo.n s.mo.M rfl HM2.out ?_; intro w0 hrg0 hg0 hs0))
    go_frame
    have hb0 : Below w2.heap.size w2 w0 := ⟨hg0.os, hg0.tape, hg0.output, by omega, fun q hq => hg0.block q hq (by simp)⟩
    have HB0 : Hid (Below w2.heap.size w2 w0) := hb0
    have HR0 := @id (Hid (World.ranges w0 _ _ _ _ _ _ _ _ _)) hrg0
    clear hg0 hs0 hb0 hrg0
    go_loopw [24] (fun _ wr => wr = w0) (fun _ _ => 0)
    case atStart => rfl
    case round =>
      obtain rfl := hrel
      go_wp2_with (first
        | (at_next; refine wpList_next_ranges _ rfl _ rfl 3 hK asIs (Value.int .i64) (fun v : Value => v) (fun key kl hkey => by obtain ⟨x, rfl, _⟩ := Maps.keyOf_int_inv Tryz.underlying3 hkey; exact ⟨x, rfl⟩) (fun v y hv => ⟨v, rfl⟩) s.mo.b w2.heap.size s.mo.n s.mo.M _ _ rfl HR0.out ?_ ?_))
      · intro _ _
        go_wp2_with (first
          | (go_at_call 78; go_must (
              refine (sorted_any (HY.out.1.map.below HB0.out) HY.out.1.ok (by have := HY.out.1.num; have := HN.out; omega)).mono ?_
              rintro e w3 ⟨v, ks, rfl, k1, k2, k3⟩
              have HZ : Hid (KeysOf M ks ∧ w3.ownsRow wr.heap.size 43 2 v (pairsOf M ks).length (pairCells (pairsOf M ks)) ∧ Below wr.heap.size wr w3) := ⟨k1, k2, k3⟩
              clear k1 k2 k3)))
        go_ret
        obtain ⟨k1, k2, k3⟩ := HZ.out
        obtain ⟨h1, h2, h3⟩ := HY.out
        have h4 := h3.on_below HB0.out
        refine ⟨v, wr.heap.size, pairsOf M ks, s', rfl, h4.below.size, ⟨k2, fun tag k hk => h4.lies.lt tag k hk, rising_pw.2 (pairsOf_rising k1.rise)⟩, fun key => ?_, h2, h4.on_below k3⟩
        rw [pairsOf_under k1, h1.says, HU.out]
        rcases under_cases (s.cont (bucket key)) key with ⟨p, _, _, e⟩ | ⟨_, e⟩ <;> rw [e] <;> rfl
      · intro x c kl yd yp w1' cnt1 hkey hlx hv hat hrg1 hlt hg1 hs1 hen
        rw [HNO.out] at hlx
        cases hlx
end Go.Proofs.YtihbngfbcnojcaaGreat

namespace Go.Proofs.YtihbngfbcnojcaaGreat
open Go.RowKit

theorem rel_open {k : Bool} {s : Sv} {P : Sp} (h : Rel k s P) {u : Int} {y : TxE} (hy : s.tx u = some y) : ∃ p, P.tx u = some p ∧ ∀ key, holdOf y.H key = p.hold key := by
  cases hp : P.tx u with
  | none => rw [h.tx0 u hp] at hy; cases hy
  | some p =>
    obtain ⟨y', hy', _, h3⟩ := h.tx1 u p hp
    rw [hy] at hy'
    simp only [Option.some.injEq] at hy'
    subst hy'
    exact ⟨p, rfl, h3⟩

theorem name_ok {k : Bool} {s : Sv} {P : Sp} (h : Rel k s P) {t : Int} {p : TxP} (hp : P.tx t = some p) {key : ByteArray} (hk : 1 ≤ key.size ∧ key.size ≤ 8) : nameErr (s.tx t).isSome key = 0 := by
  obtain ⟨x, hx, _, _⟩ := h.tx1 t p hp
  unfold nameErr
  rw [hx, if_neg (by simp), if_neg (by omega)]

/-- A write that is refused: no room. -/
theorem write_full {w : World} {a : Nat} {k : Bool} {P : Sp} {X : Nat → Prop} {q : Nat} (S : Store w a k P X q) (hq : q ≤ 100000) (t : Int) (ht : IsInt t) (p : TxP) (hp : P.tx t = some p) (key : ByteArray) (hks : 1 ≤ key.size ∧ key.size ≤ 8) (c : Bool × ByteArray) (hv : c.2.size ≤ 12) (hfree : ∀ u p', P.tx u = some p' → u ≠ t → p'.hold key = 0) (hr : ¬ HasRoom P key) :
    Calls Tryz.prog 42 #[.pointer (some ⟨a, 0, none⟩), .int .i64 t, .string key, .agg #[.bool c.1, .string c.2]] w fun e w' => ∃ r, e = .returned (.int .i64 r) ∧ r = 10 ∧ Then w w' a k P X q := by
  obtain ⟨s, L, R, hX⟩ := S
  refine (storeWrite_no k L hq t ht key (by omega) c.1 c.2 (by omega) 10 (.inr (.inr (.inr ⟨name_ok R hp hks, hv, fun u y hy hu => ?_, .inr (fun h => hr ((R.room key).1 h)), rfl⟩)))).mono ?_
  · obtain ⟨p', hp', h3⟩ := rel_open R hy
    rw [h3, hfree u p' hp' hu]; exact Int.le_refl _
  · rintro e w' ⟨s', h1, h2, h3⟩
    exact ⟨10, h1, rfl, then_of L hX h3 (h2.held L.held) (h2.cap L.cap) h2.same.1 (R.paged h2)⟩

/-- A write that is refused: another holds the key. -/
theorem write_locked {w : World} {a : Nat} {k : Bool} {P : Sp} {X : Nat → Prop} {q : Nat} (S : Store w a k P X q) (hq : q ≤ 100000) (t : Int) (ht : IsInt t) (p : TxP) (hp : P.tx t = some p) (key : ByteArray) (hks : 1 ≤ key.size ∧ key.size ≤ 8) (c : Bool × ByteArray) (hv : c.2.size ≤ 12) (u : Int) (p' : TxP) (hu : P.tx u = some p') (hne : u ≠ t) (hh : 1 ≤ p'.hold key) :
    Calls Tryz.prog 42 #[.pointer (some ⟨a, 0, none⟩), .int .i64 t, .string key, .agg #[.bool c.1, .string c.2]] w fun e w' => ∃ r, e = .returned (.int .i64 r) ∧ r = 8 ∧ Then w w' a k P X q := by
  obtain ⟨s, L, R, hX⟩ := S
  obtain ⟨y, hy, _, h3⟩ := R.tx1 u p' hu
  refine (storeWrite_no k L hq t ht key (by omega) c.1 c.2 (by omega) 8 (.inr (.inr (.inl ⟨name_ok R hp hks, hv, ⟨u, y, hy, hne, by rw [h3]; exact hh⟩, rfl⟩)))).mono ?_
  rintro e w' ⟨s', h1, h2, h4⟩
  exact ⟨8, h1, rfl, then_of L hX h4 (h2.held L.held) (h2.cap L.cap) h2.same.1 (R.paged h2)⟩

/-- A write, of either kind. -/
theorem write_ok {w : World} {a : Nat} {k : Bool} {P : Sp} {X : Nat → Prop} {q : Nat} (S : Store w a k P X q) (hq : q ≤ 99999) (hlen : P.len ≤ 390) (t : Int) (ht : t < 256) (p : TxP) (key : ByteArray) (c : Bool × ByteArray) (m : MayPut P t p key c) :
    Calls Tryz.prog 42 #[.pointer (some ⟨a, 0, none⟩), .int .i64 t, .string key, .agg #[.bool c.1, .string c.2]] w fun e w' => ∃ r, e = .returned (.int .i64 r) ∧ r = 0 ∧ Then w w' a k (P.write t p key c) X (q + 1) := by
  cases k with
  | true => exact write_steal S hq hlen t ht p key c m
  | false => exact write_beside S hq t ht p key c m

/-- A transaction is over, and what it made of keys is committed. -/
def Sp.commit (P : Sp) (t : Int) (p : TxP) : Sp := { P with comm := fun key => (p.wrote key).getD (P.comm key), tx := fun u => if u = t then none else P.tx u, nopen := P.nopen - 1, len := P.len + 122 }

theorem synced_read2 (s : Sv) (hz : s.D.size = 27779) (hok : WsOk s.ws) (a : Nat) (ha : a < 434) : readW (synced s).D (synced s).ws a = readW s.D s.ws a := by
  obtain ⟨h1, _, _⟩ := apply_of s.D s.ws hz hok
  rw [← h1 a ha]
  show (((applyW s.D s.ws).setIfInBounds 27776 (.slice none 0 0)).extract (a * 64) (a * 64 + 64)).toList = _
  congr 1
  apply Array.ext_getElem?
  intro i
  simp only [Array.getElem?_extract, Array.size_setIfInBounds]
  split
  · exact Array.getElem?_setIfInBounds_ne (by omega)
  · rfl

/-- What both kinds have in common at a commit. -/
theorem rel_commit_any {w : World} {k : Bool} {s s' : Sv} {P : Sp} {t : Int} {p : TxP} (L : Lies w s) (g : Good s) (h : Rel k s P) (hp : P.tx t = some p) (htx : s'.tx = fun u => if u = t then none else s.tx u) (hnum : s'.begun = s.begun ∧ s'.acts = s.acts) (hlen : s.len ≤ s'.len ∧ s'.len ≤ s.len + 122) (hmo : s'.mo.M = s.mo.M.del (.int .i64 t)) (hbk : Buck s')
    (hst : k = true → (∃ lg, Logd s' lg ∧ ∀ u p' y, (P.commit t p).tx u = some p' → s'.tx u = some y → Chain lg y.last p'.ups) ∧ s'.cont = s.cont) (hbs : k = false → (∃ md, Made s' md) ∧ (s'.mt = fun u => if u = t then none else s.mt u) ∧ ∀ key, under (s'.cont (bucket key)) key = (p.wrote key).getD (P.comm key)) : Rel k s' (P.commit t p) := by
  have hsome : ∀ u p', (P.commit t p).tx u = some p' → u ≠ t ∧ P.tx u = some p' := fun u p' hp' => by
    simp only [Sp.commit] at hp'
    split at hp'
    · cases hp'
    · rename_i he
      exact ⟨he, hp'⟩
  obtain ⟨x, hx, _, _⟩ := h.tx1 t p hp
  refine ⟨fun u hu => ?_, fun u p' hp' => ?_, ⟨by rw [hnum.1]; exact h.nums.1, by rw [hnum.2]; exact h.nums.2.1, by have := h.nums.2.2; show s'.len ≤ P.len + 122; omega⟩, fun u hu => ?_, fun u p' hp' => h.pos u p' (hsome u p' hp').2, ?_, hbk, fun u1 u2 p1 p2 k' hp1 hp2 h1 h2 => h.one u1 u2 p1 p2 k' (hsome _ _ hp1).2 (hsome _ _ hp2).2 h1 h2, ⟨fun key => ?_, fun u p' k' c' hp' hc' => h.nrm.2 u p' k' c' (hsome _ _ hp').2 hc'⟩, fun u p' k' hp' => h.rd u p' k' (hsome _ _ hp').2, fun u p' hp' => ?_, fun hk => ?_, fun hk => ?_⟩
  · rw [htx]
    show (if u = t then none else s.tx u) = none
    by_cases hut : u = t
    · rw [if_pos hut]
    · rw [if_neg hut]
      simp only [Sp.commit] at hu
      rw [if_neg hut] at hu
      exact h.tx0 u hu
  · obtain ⟨hu, hp''⟩ := hsome u p' hp'
    obtain ⟨y, h1, h2, h3⟩ := h.tx1 u p' hp''
    exact ⟨y, by rw [htx]; show (if u = t then none else s.tx u) = _; rw [if_neg hu]; exact h1, by omega, h3⟩
  · have hu' : (P.next : Int) < u := hu
    simp only [Sp.commit]
    split
    · rfl
    · exact h.fut u hu'
  · show Maps.size s'.mo.M = P.nopen - 1
    have h1 := Maps.size_del (k := .int .i64 t) (mo_tidy L)
    rw [open_has g, hx, h.cnt] at h1
    simp only [Option.isSome_some, if_true] at h1
    rw [hmo]; omega
  · show norm ((p.wrote key).getD (P.comm key)) = (p.wrote key).getD (P.comm key)
    cases hw : p.wrote key with
    | none => exact h.nrm.1 key
    | some c => exact h.nrm.2 t p key c hp hw
  · obtain ⟨hu, hp''⟩ := hsome u p' hp'
    obtain ⟨h1, h2⟩ := h.ups u p' hp''
    refine ⟨h1, fun key => ?_⟩
    show undoL p'.ups (fun k => (p'.wrote k).getD ((p.wrote k).getD (P.comm k))) key = (p.wrote key).getD (P.comm key)
    cases hw : p.wrote key with
    | none =>
      refine Eq.trans (undoL_congr _ _ (fun k => (p'.wrote k).getD (P.comm k)) _ ?_) (h2 key)
      simp [hw]
    | some c =>
      have hnw : (p'.wrote key).isSome = false := by
        cases hq : (p'.wrote key).isSome
        · rfl
        · exact absurd (h.one t u p p' key hp hp'' (by rw [hw]; rfl) hq).symm hu
      rw [undoL_off _ _ _ (fun v hv e => by have := h1 v hv; rw [e, hnw] at this; cases this)]
      cases hq : p'.wrote key with
      | none => simp [hw]
      | some c1 => rw [hq] at hnw; cases hnw
  · obtain ⟨h1, h2⟩ := hst hk
    obtain ⟨_, h3, h4⟩ := h.steal hk
    refine ⟨h1, fun u p' k' c' hp' hc' => ?_, fun key hno => ?_⟩
    · rw [h2]; exact h3 u p' k' c' (hsome _ _ hp').2 hc'
    · rw [h2]
      show _ = (p.wrote key).getD (P.comm key)
      cases hw : p.wrote key with
      | some c => exact h3 t p key c hp hw
      | none =>
        refine h4 key fun u p' hp' => ?_
        by_cases hu : u = t
        · rw [hu, hp] at hp'
          simp only [Option.some.injEq] at hp'
          rw [← hp']; exact hw
        · exact hno u p' (by simp only [Sp.commit]; rw [if_neg hu]; exact hp')
  · obtain ⟨h1, h2, h3⟩ := hbs hk
    obtain ⟨_, b2, b3, _⟩ := h.beside hk
    refine ⟨h1, fun u hu => ?_, fun u p' hp' key => ?_, h3⟩
    · rw [h2]
      show (if u = t then none else s.mt u) = none
      by_cases hut : u = t
      · rw [if_pos hut]
      · rw [if_neg hut]
        simp only [Sp.commit] at hu
        rw [if_neg hut] at hu
        exact b2 u hu
    · obtain ⟨hu, hp''⟩ := hsome u p' hp'
      show (s'.mt u).bind _ = _
      rw [h2]
      show (if u = t then none else s.mt u).bind _ = _
      rw [if_neg hu]; exact b3 u p' hp'' key

theorem wsok_snoc {s : Sv} (g : Good s) (hl : s.len ≤ 390) (a b : Int) (e : EntV) (he : e.Fits) : WsOk (s.ws ++ [(34 + s.len, sealed a b e.body)]) := fun p hp => by
  have hbody : e.body.length ≤ 48 := by rw [EntV.body_length _ he]; omega
  rcases List.mem_append.1 hp with h1 | h1
  · exact g.ok p h1
  · simp at h1
    subst h1
    exact ⟨by show 34 + s.len < 434; omega, sealed_length _ _ _ hbody, sealed_one _ _ _ (EntV.body_one _)⟩

theorem cap_less {s s' : Sv} (hc : Cap s) (h : ∀ n k, n < 8 → keptKey s' n k → keptKey s n k) : Cap s' := fun n hn => by
  obtain ⟨l, l1, l2⟩ := hc n hn
  exact ⟨l, l1, fun k hk => l2 k (h n k hn hk)⟩

/-- Commit of a store that changes its pages at once. -/
theorem commit_steal {w : World} {a : Nat} {P : Sp} {X : Nat → Prop} {q : Nat} (S : Store w a true P X q) (hlen : P.len ≤ 390) (t : Int) (ht : t < 256) (p : TxP) (hp : P.tx t = some p) :
    Calls Tryz.prog 21 #[.pointer (some ⟨a, 0, none⟩), .int .i64 t] w fun e w' => e = .returned (.int .i64 0) ∧ Then w w' a true (P.commit t p) X q := by
  obtain ⟨s, L, R, hX⟩ := S
  obtain ⟨x, hx, hlast, hhold⟩ := R.tx1 t p hp
  have hpos := R.pos t p hp
  have hn := R.nums
  have hl : s.len ≤ 390 := by omega
  refine (storeCommit_steal L t ⟨by omega, by omega⟩ x hx (fun s' => Committed1 s s' t x ∧ Held s' q) (fun W hW => (stealCommit_step hW L.good L.held hl t ⟨by omega, ht⟩ x hx hlast).mono ?_)).mono ?_
  · rintro e w' ⟨h1, s', h2, h3, h4⟩
    exact ⟨h1, s', ⟨h2, h4⟩, h3⟩
  · rintro e w' ⟨h1, s', ⟨h2, hh⟩, hg⟩
    have hfacts : s'.cont = s.cont ∧ s'.kb = s.kb ∧ (s'.tx = fun u => if u = t then none else s.tx u) ∧ s'.begun = s.begun ∧ s'.acts = s.acts ∧ (s.len ≤ s'.len ∧ s'.len ≤ s.len + 122) ∧ s'.mo.M = s.mo.M.del (.int .i64 t) ∧ ∃ lg, Logd s' lg ∧ ∀ u p' y, (P.commit t p).tx u = some p' → s'.tx u = some y → Chain lg y.last p'.ups := by
      obtain ⟨⟨lg, hlg, hch⟩, _, _⟩ := R.steal rfl
      have hch2 : ∀ u p' y, (P.commit t p).tx u = some p' → (if u = t then none else s.tx u) = some y → Chain lg y.last p'.ups := fun u p' y hp' hy => by
        simp only [Sp.commit] at hp'
        by_cases hu : u = t
        · rw [if_pos hu] at hp'; cases hp'
        · rw [if_neg hu] at hp' hy
          exact hch u p' y hp' hy
      rcases h2 with ⟨_, rfl⟩ | ⟨_, v', rfl⟩
      · exact ⟨rfl, rfl, rfl, rfl, rfl, ⟨Nat.le_refl _, by show s.len ≤ _; omega⟩, rfl, lg, hlg.same rfl rfl rfl rfl, hch2⟩
      · have hfit : EntV.Fits { (⟨3, 0, 0, 0, ByteArray.empty, false, ByteArray.empty, false, ByteArray.empty⟩ : EntV) with tx := t, prev := (x.last : Int) } := ⟨by simp, ⟨by simp only; omega, ht⟩, ⟨by simp only; omega, by simp only; omega⟩, by simp, by simp, by simp, by simp⟩
        have hct := L.good.ct
        have hac := L.good.ac
        have hE : Logd (entered s t x ⟨3, 0, 0, 0, ByteArray.empty, false, ByteArray.empty, false, ByteArray.empty⟩ v') (lg ++ [(_, s.count + 1)]) := hlg.snoc (by omega) _ (s.count + 1) v' rfl rfl rfl rfl (by omega) hfit (fun _ => rfl) (fun _ => rfl)
        refine ⟨rfl, rfl, ?_, rfl, rfl, ⟨by show s.len ≤ s.len + 1; omega, by show s.len + 1 ≤ s.len + 122; omega⟩, rfl, _, ⟨hE.len, fun i hi => ?_, fun i hi hi4 => ?_, hE.st⟩, fun u p' y hp' hy => ?_⟩
        · funext u
          show (if u = t then none else (if u = t then some _ else s.tx u)) = _
          by_cases hu : u = t
          · rw [if_pos hu, if_pos hu]
          · rw [if_neg hu, if_neg hu, if_neg hu]
        · have e1 := synced_read2 (entered s t x ⟨3, 0, 0, 0, ByteArray.empty, false, ByteArray.empty, false, ByteArray.empty⟩ v') (by show (s.D.setIfInBounds 27776 v').size = _; rw [Array.size_setIfInBounds]; exact L.good.dsz) (wsok_snoc L.good hl _ _ _ hfit) (34 + i) (by have := hE.len; have : (entered s t x ⟨3, 0, 0, 0, ByteArray.empty, false, ByteArray.empty, false, ByteArray.empty⟩ v').len = s.len + 1 := rfl; omega)
          have e2 := hE.at' i hi
          rw [← e1] at e2
          exact e2
        · have e1 := synced_read2 (entered s t x ⟨3, 0, 0, 0, ByteArray.empty, false, ByteArray.empty, false, ByteArray.empty⟩ v') (by show (s.D.setIfInBounds 27776 v').size = _; rw [Array.size_setIfInBounds]; exact L.good.dsz) (wsok_snoc L.good hl _ _ _ hfit) (34 + i) (by omega)
          have e2 := hE.rest i hi hi4
          rw [← e1] at e2
          exact e2
        · refine (hch2 u p' y hp' ?_).more _
          have hy' : (if u = t then none else (if u = t then some { x with last := s.len + 1 } else s.tx u)) = some y := hy
          by_cases hu : u = t
          · rw [if_pos hu] at hy'; cases hy'
          · rw [if_neg hu, if_neg hu] at hy'; rw [if_neg hu]; exact hy'
    obtain ⟨f1, f2, f3, f4, f5, f6, f7, f8⟩ := hfacts
    refine ⟨h1, then_of L hX hg hh (cap_less L.cap fun n k hn' hk => ?_) f2 (rel_commit_any L.lies L.good R hp f3 ⟨f4, f5⟩ f6 f7 (by unfold Buck; rw [f1]; exact R.buck) (fun _ => ⟨f8, f1⟩) (fun h => by cases h))⟩
    rcases hk with h3 | ⟨h3, u, y, hy, h4⟩
    · rw [f1] at h3; exact .inl h3
    · rw [f3] at hy
      by_cases hu : u = t
      · simp only [hu, if_true] at hy; cases hy
      · simp only [hu, if_false] at hy
        exact .inr ⟨h3, u, y, hy, h4⟩
end Go.Proofs.YtihbngfbcnojcaaGreat

namespace Go.Proofs.YtihbngfbcnojcaaGreat
open Go.RowKit

theorem has_wrote {M : DataW Value} (h : CellsOk M) (key : ByteArray) : Maps.has M (lit key) = (wroteIn M key).isSome ∧ ∀ c, wroteIn M key = some c → cellOf M key = c := by
  refine ⟨?_, fun c hc => by unfold cellOf; rw [hc]; rfl⟩
  rcases h key with h1 | ⟨is, val, _, _, h1⟩
  · rw [Maps.has_false_of_atKey h1]
    unfold wroteIn; rw [h1]; rfl
  · rw [Maps.has_true_of_atKey h1]
    unfold wroteIn; rw [h1]; rfl

/-- Commit of a store that keeps writes beside the pages. -/
theorem commit_beside {w : World} {a : Nat} {P : Sp} {X : Nat → Prop} {q : Nat} (S : Store w a false P X q) (hlen : P.len ≤ 270) (t : Int) (ht : t < 256) (p : TxP) (hp : P.tx t = some p) :
    Calls Tryz.prog 21 #[.pointer (some ⟨a, 0, none⟩), .int .i64 t] w fun e w' => e = .returned (.int .i64 0) ∧ Then w w' a false (P.commit t p) X q := by
  obtain ⟨s, L, R, hX⟩ := S
  obtain ⟨x, hx, hlast, hhold⟩ := R.tx1 t p hp
  have hpos := R.pos t p hp
  have hn := R.nums
  have hac := L.good.ac
  obtain ⟨⟨md, hmd⟩, b2, b3, b4⟩ := R.beside rfl
  have hti : IsInt t := ⟨by omega, by omega⟩
  cases hmt : s.mt t with
  | none =>
    refine (storeCommit_noSteal L t hti x hx (fun s' => Ncom s s' t s.cont 0 ∧ (∃ md', Made s' md') ∧ Held s' q) (fun W hW => (noStealCommit_none hW L.good L.held hmd t hti hmt).mono ?_)).mono ?_
    · rintro e w' ⟨h1, s', md', h2, h3, h4, h5⟩
      exact ⟨h1, s', ⟨h2, ⟨md', h3⟩, h5⟩, h4⟩
    · rintro e w' ⟨h1, s', ⟨h2, h3, hh⟩, hg⟩
      have hno : ∀ key, p.wrote key = none := fun key => by rw [← b3 t p hp key]; simp [Sv.own, hmt]
      refine ⟨h1, then_of L hX hg hh (cap_less L.cap fun n k hn' hk => ?_) h2.nums.2.2.1 ?_⟩
      · rcases hk with h4 | ⟨h4, u, y, hy, h5⟩
        · rw [h2.cont] at h4; exact .inl h4
        · rw [h2.tx] at hy
          by_cases hu : u = t
          · simp only [hu, if_true] at hy; cases hy
          · simp only [hu, if_false] at hy
            exact .inr ⟨h4, u, y, hy, h5⟩
      · refine rel_commit_any L.lies L.good R hp h2.tx ⟨h2.nums.2.1, h2.nums.1⟩ ?_ h2.nums.2.2.2.2.1 (by unfold Buck; rw [h2.cont]; exact R.buck) (fun h => by cases h) (fun _ => ⟨h3, h2.mt, fun key => ?_⟩)
        · exact ⟨h2.grew, by have := h2.nums.2.2.2.2.2; omega⟩
        · rw [h2.cont, b4, hno]; rfl
  | some m =>
    obtain ⟨hcok, hmn⟩ := hmd.cells t m hmt
    have hown : ∀ key, wroteIn m.M key = p.wrote key := fun key => by rw [← b3 t p hp key]; simp [Sv.own, hmt]
    have hall : ∀ k, Maps.has m.M (lit k) = true → holdOf x.H k = 2 := fun k hk => by
      rw [(has_wrote hcok k).1, hown] at hk
      rw [hhold]
      unfold TxP.hold
      rw [if_pos hk]
    refine (storeCommit_noSteal L t hti x hx (fun s' => ∃ ks, KeysOf m.M ks ∧ Ncom s s' t (contAfter s.cont m.M ks) (ks.length + 1) ∧ (∃ md', Made s' md') ∧ Held s' q) (fun W hW => (noStealCommit_some hW L.good L.held L.cap hmd t ⟨by omega, ht⟩ x hx hlast hmt hall (by omega)).mono ?_)).mono ?_
    · rintro e w' ⟨h1, ks, s', md', h0, h2, h3, h4, h5⟩
      exact ⟨h1, s', ⟨ks, h0, h2, ⟨md', h3⟩, h5⟩, h4⟩
    · rintro e w' ⟨h1, s', ⟨ks, h0, h2, h3, hh⟩, hg⟩
      obtain ⟨f1, f2, f3⟩ := contAfter_facts (c := s.cont) m.M (fun n hn => (L.good.rise n hn).1) ks
      have hkl : ks.length ≤ 120 := by
        have hM : MapOf w 9 m.b m.n m.M := L.lies.comp (.madeOf t) m hmt
        have := World.ownsMap.size_le hM
        rw [h0.len]; omega
      refine ⟨h1, then_of L hX hg hh (cap_less L.cap fun n k hn' hk => ?_) h2.nums.2.2.1 ?_⟩
      · rcases hk with ⟨p', hp', rfl⟩ | ⟨h4, u, y, hy, h5⟩
        · rw [h2.cont] at hp'
          rcases f2 n hn' p' hp' with h4 | ⟨h4, h5⟩
          · exact .inl ⟨p', h4, rfl⟩
          · exact .inr ⟨h5, t, x, hx, hall _ ((h0.mem _).1 h4)⟩
        · rw [h2.tx] at hy
          by_cases hu : u = t
          · simp only [hu, if_true] at hy; cases hy
          · simp only [hu, if_false] at hy
            exact .inr ⟨h4, u, y, hy, h5⟩
      · refine rel_commit_any L.lies L.good R hp h2.tx ⟨h2.nums.2.1, h2.nums.1⟩ ⟨h2.grew, by have := h2.nums.2.2.2.2.2; omega⟩ h2.nums.2.2.2.2.1 (fun n hn' p' hp' => ?_) (fun h => by cases h) (fun _ => ⟨h3, h2.mt, fun key => ?_⟩)
        · rw [h2.cont] at hp'
          rcases f2 n hn' p' hp' with h4 | ⟨_, h4⟩
          · exact R.buck n hn' p' h4
          · exact h4
        · rw [h2.cont]
          obtain ⟨g1, g2⟩ := has_wrote hcok key
          cases hw : p.wrote key with
          | none =>
            have hni : key ∉ ks := fun hk => by
              have := (h0.mem key).1 hk
              rw [g1, hown, hw] at this
              cases this
            rw [(f3 key).2 hni, b4]; rfl
          | some c =>
            have hin : key ∈ ks := (h0.mem key).2 (by rw [g1, hown, hw]; rfl)
            rw [(f3 key).1 hin, g2 c (by rw [hown, hw])]
            exact R.nrm.2 t p key c hp hw

theorem commit_ok {w : World} {a : Nat} {k : Bool} {P : Sp} {X : Nat → Prop} {q : Nat} (S : Store w a k P X q) (hlen : P.len ≤ 270) (t : Int) (ht : t < 256) (p : TxP) (hp : P.tx t = some p) :
    Calls Tryz.prog 21 #[.pointer (some ⟨a, 0, none⟩), .int .i64 t] w fun e w' => e = .returned (.int .i64 0) ∧ Then w w' a k (P.commit t p) X q := by
  cases k with
  | true => exact commit_steal S (by omega) t ht p hp
  | false => exact commit_beside S hlen t ht p hp

/-- What Dump answers. -/
def Dumped (w w' : World) (a : Nat) (k : Bool) (P : Sp) (X : Nat → Prop) (q : Nat) (v : Value) : Prop := ∃ B ps, w'.ownsRow B 43 2 v ps.length (pairCells ps) ∧ w.heap.size ≤ B ∧ RisingAt ps ∧ (∀ key, under ps key = P.comm key) ∧ Then w w' a k P X q

/-- Dump where nothing is open. -/
theorem dump_idle {w : World} {a : Nat} {k : Bool} {P : Sp} {X : Nat → Prop} {q : Nat} (S : Store w a k P X q) (h0 : P.nopen = 0) :
    Calls Tryz.prog 35 #[.pointer (some ⟨a, 0, none⟩)] w fun e w' => ∃ v, e = .returned (.tuple #[v, .int .i64 0]) ∧ Dumped w w' a k P X q v := by
  obtain ⟨s, L, R, hX⟩ := S
  cases k with
  | true =>
    obtain ⟨⟨lg, hlg, _⟩, h3, h4⟩ := R.steal rfl
    have hsz : Maps.size s.mo.M = 0 := by rw [R.cnt, h0]
    have hno : ∀ t p, P.tx t ≠ some p := fun t p hp => by
      obtain ⟨x, hx, _, _⟩ := R.tx1 t p hp
      have h1 := open_has L.good t
      rw [hx] at h1
      obtain ⟨es, h2, _⟩ := mo_tidy L.lies
      rw [h2] at hsz h1
      have : es = [] := List.length_eq_zero_iff.1 hsz
      rw [this] at h1
      cases h1
    refine dump_steal a s.kb _ L.ca ((stealCommitted_idle L.lies L.good R.buck hlg hsz).mono ?_)
    rintro e w' ⟨v, B, ps, s', h5, h6, h7, h8, h9, h10⟩
    exact ⟨v, h5, B, ps, h7.row, h6, h7.rise, fun key => by rw [h8]; exact h4 key fun t p hp => absurd hp (hno t p), then_of L hX h10 (h9.held L.held) (h9.cap L.cap) h9.same.1 (R.paged h9)⟩
  | false =>
    obtain ⟨_, _, _, b4⟩ := R.beside rfl
    refine dump_noSteal a s.kb _ L.ca ((noStealCommitted_step L.lies L.good R.buck).mono ?_)
    rintro e w' ⟨v, B, ps, s', h5, h6, h7, h8, h9, h10⟩
    exact ⟨v, h5, B, ps, h7.row, h6, h7.rise, fun key => by rw [h8]; exact b4 key, then_of L hX h10 (h9.held L.held) (h9.cap L.cap) h9.same.1 (R.paged h9)⟩
end Go.Proofs.YtihbngfbcnojcaaGreat

namespace Go.Proofs.YtihbngfbcnojcaaGreat
open Go.RowKit

theorem logCells_at : ∀ (l : List EntV) (i : Nat) (e : EntV), l[i]? = some e → ∀ j u, e.cells[j]? = some u → (logCells l)[i * 9 + j]? = some u
  | [], i, e, h, _, _, _ => by simp at h
  | d :: r, 0, e, h, j, u, hu => by
    simp at h
    subst h
    have hj := (Array.getElem?_eq_some_iff.1 hu).1
    show (d.cells.toList ++ logCells r)[0 * 9 + j]? = _
    rw [Nat.zero_mul, Nat.zero_add, List.getElem?_append_left (by simpa using hj), Array.getElem?_toList]
    exact hu
  | d :: r, i + 1, e, h, j, u, hu => by
    have ih := logCells_at r i e (by simpa using h) j u hu
    have hl : d.cells.toList.length = 9 := rfl
    show (d.cells.toList ++ logCells r)[(i + 1) * 9 + j]? = _
    rw [List.getElem?_append_right (by omega), hl, show (i + 1) * 9 + j - 9 = i * 9 + j by omega]
    exact ih

theorem Chain.le {lg : List (EntV × Int)} : ∀ {n : Nat} {l : List (ByteArray × (Bool × ByteArray))}, Chain lg n l → n ≤ lg.length
  | n, [], h => by have : n = 0 := h; omega
  | n, u :: r, ⟨e, c, m, h1, h2, _⟩ => by have := (List.getElem?_eq_some_iff.1 h2).1; omega

/-- What an update takes back. -/
def upOf (e : EntV) : ByteArray × (Bool × ByteArray) := (e.key, (e.oldIs, e.old))

set_option maxRecDepth 100000 in
set_option maxHeartbeats 4000000 in
/-- (*steal).backward: the updates of an open transaction, the last one first. -/
theorem backward_step {w : World} {s : Sv} {lg : List (EntV × Int)} (h : Lies w s) (g : Good s) (t : Int) (ht : IsInt t) (x : TxE) (hx : s.tx t = some x) (base : Nat) (vE : Value) (hrow : w.ownsRow base 152 9 vE lg.length (logCells (lg.map (·.1)))) (hlg : lg.length ≤ 400) (ups : List (ByteArray × (Bool × ByteArray))) (hc : Chain lg x.last ups) :
    Calls Tryz.prog 305 #[.pointer (some ⟨s.kb, 0, none⟩), .int .i64 t, vE] w fun e w' => ∃ v es, e = .returned v ∧ w'.ownsRow w.heap.size 152 9 v es.length (logCells es) ∧ es.map upOf = ups ∧ (∀ e ∈ es, ∃ p ∈ lg, p.1 = e) ∧ Below w.heap.size w w' := by
  have hl := open_look ht (h.comp .mo) (g.isOpen t x hx)
  have c5 : w.cell? ⟨s.kb, 5, none⟩ = some (.map (some s.mo.b)) := cell_at (h.comp .kind) (cells_of s (by omega) rfl)
  have ctx : w.cell? ⟨x.tb, 0, none⟩ = some (.int .i64 (x.last : Int)) := cell_at (j := 0) (h.comp (.tx t) x hx) rfl
  obtain ⟨ad, cap, rfl, _⟩ := owns_slice' hrow
  have HROW : Hid (w.ownsRow base 152 9 (.slice ad lg.length cap) lg.length (logCells (lg.map (·.1)))) := hrow
  have HC : Hid (Chain lg x.last ups) := hc
  generalize hkb : s.kb = kb at c5 ⊢
  clear h g hx hrow hc
  go_enter Tryz.func305, Tryz.ntmps305
  go_wp2
  go_loopw [7, 8] (fun u iv wr => ∃ (n : Nat) (es : List EntV) (l : List (ByteArray × (Bool × ByteArray))), iv = .int .i64 (n : Int) ∧ n ≤ lg.length ∧ es.length + n ≤ 400 ∧ Chain lg n l ∧ es.map upOf ++ l = ups ∧ (∀ e ∈ es, ∃ p ∈ lg, p.1 = e) ∧ wr.ownsRow w.heap.size 152 9 u es.length (logCells es) ∧ Below w.heap.size w wr) (fun _ iv _ => (intOf iv).toNat)
  case atStart =>
    refine ⟨x.last, [], ups, rfl, ?_, ?_, HC.out, rfl, fun e he => (List.not_mem_nil he).elim, World.ownsRow_nil _ _ _ _, Below.refl _ _⟩
    · exact HC.out.le
    · have := HC.out.le; simp; omega
  case round =>
    obtain ⟨n, es, l, rfl, hn, hne, hch, hup, hin, hout, hbr⟩ := hrel
    have HBR : Hid (Below w.heap.size w wr) := hbr
    have HUP : Hid (es.map upOf ++ l = ups) := hup
    have HIN : Hid (∀ e ∈ es, ∃ p ∈ lg, p.1 = e) := hin
    have hsz := hbr.size
    cases l with
    | nil =>
      have hn0 : n = 0 := hch
      subst hn0
      have HOUT := @id (Hid (World.ownsRow wr _ _ _ _ _ _)) hout
      clear hout hbr hup hin
      go_wp2
      go_ret
      exact ⟨_, es, rfl, HOUT.out, by have := HUP.out; simpa using this, HIN.out, HBR.out⟩
    | cons up r =>
      obtain ⟨e, c, m, h1, h2, h3, h4, h5, h6, h7⟩ := hch
      obtain ⟨k, rfl⟩ : ∃ k, n = k + 1 := ⟨n - 1, by omega⟩
      rw [Nat.add_sub_cancel] at h2
      have hk : k < lg.length := (List.getElem?_eq_some_iff.1 h2).1
      have hget : (lg.map (·.1))[k]? = some e := by rw [List.getElem?_map, h2]; rfl
      have hownr := owns_below HROW.out hbr (fun g hg => (HROW.out.lt g hg).2)
      obtain ⟨gE, cap', he⟩ := owns_some hownr (by omega)
      simp only [Value.slice.injEq] at he
      obtain ⟨rfl, -, rfl⟩ := he
      have hgE : gE < w.heap.size := (HROW.out.lt gE rfl).2
      have HMEM : Hid (∃ p ∈ lg, p.1 = e) := ⟨_, List.mem_of_getElem? h2, rfl⟩
      have HUE : Hid (upOf e = up) := by
        show (e.key, (e.oldIs, e.old)) = up
        rw [h3, h4]
      have HCH : Hid (Chain lg m r) := h7
      obtain ⟨kind, tx, prev, next, key, oldIs, old, newIs, new⟩ := e
      simp only at h5
      subst h5
      have a0 : wr.cell? ⟨gE, k * 9, none⟩ = some (.int .i64 kind) := owns_cell hownr (by have h9 := logCells_at _ k _ hget 0 (.int .i64 kind) rfl; rw [Nat.add_zero] at h9; exact h9)
      have a1 : wr.cell? ⟨gE, k * 9 + 1, none⟩ = some (.int .i64 tx) := owns_cell hownr (logCells_at _ k _ hget 1 _ rfl)
      have a2 : wr.cell? ⟨gE, k * 9 + 2, none⟩ = some (.int .i64 (m : Int)) := owns_cell hownr (logCells_at _ k _ hget 2 _ rfl)
      have a3 : wr.cell? ⟨gE, k * 9 + 3, none⟩ = some (.int .i64 next) := owns_cell hownr (logCells_at _ k _ hget 3 _ rfl)
      have a4 : wr.cell? ⟨gE, k * 9 + 4, none⟩ = some (.string key) := owns_cell hownr (logCells_at _ k _ hget 4 _ rfl)
      have a5 : wr.cell? ⟨gE, k * 9 + 5, none⟩ = some (.bool oldIs) := owns_cell hownr (logCells_at _ k _ hget 5 _ rfl)
      have a6 : wr.cell? ⟨gE, k * 9 + 6, none⟩ = some (.string old) := owns_cell hownr (logCells_at _ k _ hget 6 _ rfl)
      have a7 : wr.cell? ⟨gE, k * 9 + 7, none⟩ = some (.bool newIs) := owns_cell hownr (logCells_at _ k _ hget 7 _ rfl)
      have a8 : wr.cell? ⟨gE, k * 9 + 8, none⟩ = some (.string new) := owns_cell hownr (logCells_at _ k _ hget 8 _ rfl)
      have hcast : ((k + 1 : Nat) : Int) = (k : Int) + 1 := by omega
      have hpos : (0 : Int) < (k : Int) + 1 := by omega
      have hw1 : wrap64 ((k : Int) + 1 - 1) = (k : Int) := by simp only [wrap64]; omega
      have hltk : (k : Int) < (lg.length : Int) := by omega
      have HOUT := @id (Hid (World.ownsRow wr _ _ _ _ _ _)) hout
      have hel : es.length ≤ 400 := by omega
      rw [hcast]
      clear hout hbr hup hin hownr hget h1 h2 h3 h4 h7
      go_wp2_with (first
        | (at_builtin; go_must (
            refine wpList_append_ent rfl _ _ rfl w.heap.size _ es es.length rfl rfl (HOUT.out.alloc _) wr.heap.size ⟨kind, tx, (m : Int), next, key, oldIs, old, newIs, new⟩ rfl (heap_alloc_new _ _) (by omega) (by simp; omega) ?_
            intro v5 w5 hown5 hb5
            have hb6 : Below w.heap.size wr w5 := ((Below.refl _ _).alloc (by omega) _).trans hb5
            have d2 : w5.cell? ⟨gE, k * 9 + 2, none⟩ = some (.int .i64 (m : Int)) := (hb6.cell (p := ⟨gE, k * 9 + 2, none⟩) hgE).trans a2
            have HO5 := @id (Hid (World.ownsRow w5 _ _ _ _ _ _)) hown5
            have HB5 : Hid (Below w.heap.size w w5) := HBR.out.trans hb6
            clear hown5 hb5 hb6)))
      refine ⟨⟨m, es ++ [⟨kind, tx, (m : Int), next, key, oldIs, old, newIs, new⟩], r, rfl, by omega, by simp; omega, HCH.out, ?_, fun e he => ?_, ?_, HB5.out⟩, by simp [intOf]; omega⟩
      · rw [List.map_append, List.append_assoc]
        have := HUP.out
        rw [← HUE.out] at this
        exact this
      · rcases List.mem_append.1 he with h | h
        · exact HIN.out e h
        · simp at h; subst h; exact HMEM.out
      · rw [List.length_append]; exact HO5.out
end Go.Proofs.YtihbngfbcnojcaaGreat

namespace Go.Proofs.YtihbngfbcnojcaaGreat
open Go.RowKit

/-- What the pages hold when these were taken back. -/
def contBack (c : Nat → Pairs) : List (ByteArray × (Bool × ByteArray)) → Nat → Pairs
  | [] => c
  | u :: r => contBack (fun n => if n = bucket u.1 then withL (c n) u.1 u.2.1 u.2.2 else c n) r
theorem contBack_snoc : ∀ (l : List (ByteArray × (Bool × ByteArray))) (c : Nat → Pairs) (u : ByteArray × (Bool × ByteArray)), contBack c (l ++ [u]) = fun n => if n = bucket u.1 then withL (contBack c l n) u.1 u.2.1 u.2.2 else contBack c l n
  | [], _, _ => rfl
  | _ :: r, _, u => contBack_snoc r _ u
theorem contBack_facts : ∀ (l : List (ByteArray × (Bool × ByteArray))) (c : Nat → Pairs), (∀ n, n < 8 → RisingAt (c n)) → (∀ u ∈ l, norm u.2 = u.2) → (∀ n, n < 8 → RisingAt (contBack c l n)) ∧ (∀ n, n < 8 → ∀ p ∈ contBack c l n, p ∈ c n ∨ ((∃ u ∈ l, u.1 = p.1) ∧ bucket p.1 = n)) ∧
    (∀ key, under (contBack c l (bucket key)) key = undoL l (fun k => under (c (bucket k)) k) key)
  | [], c, hr, _ => ⟨hr, fun n _ p hp => .inl hp, fun key => rfl⟩
  | u :: r, c, hr, hn => by
    have hr' : ∀ n, n < 8 → RisingAt ((fun n => if n = bucket u.1 then withL (c n) u.1 u.2.1 u.2.2 else c n) n) := fun n hn' => by
      by_cases hb : n = bucket u.1
      · simp only [hb, if_true]; rw [← hb]; exact withL_rising (hr n hn') _ _ _
      · simp only [hb, if_false]; exact hr n hn'
    obtain ⟨h1, h2, h3⟩ := contBack_facts r (fun n => if n = bucket u.1 then withL (c n) u.1 u.2.1 u.2.2 else c n) hr' (fun v hv => hn v (by simp [hv]))
    refine ⟨h1, fun n hn' p hp => ?_, fun key => ?_⟩
    · rcases h2 n hn' p hp with h4 | ⟨⟨v, hv, e⟩, h5⟩
      · by_cases hb : n = bucket u.1
        · simp only [hb, if_true] at h4
          rw [← hb] at h4
          rcases withL_mem (hr n hn') _ _ _ h4 with h5 | ⟨_, h5⟩
          · exact .inl h5
          · exact .inr ⟨⟨u, by simp, by rw [h5]⟩, by rw [h5]; exact hb.symm⟩
        · simp only [hb, if_false] at h4
          exact .inl h4
      · exact .inr ⟨⟨v, by simp [hv], e⟩, h5⟩
    · show under (contBack (fun n => if n = bucket u.1 then withL (c n) u.1 u.2.1 u.2.2 else c n) r (bucket key)) key = undoL r (fun k => if k = u.1 then u.2 else under (c (bucket k)) k) key
      rw [h3]
      refine undoL_congr _ _ _ _ ?_
      by_cases hb : bucket key = bucket u.1
      · simp only [hb, if_true]
        rw [under_withL (hr _ (bucket_lt u.1))]
        by_cases he : key = u.1
        · rw [if_pos he, if_pos he]; exact hn u (by simp)
        · rw [if_neg he, if_neg he]
      · simp only [hb, if_false]
        rw [if_neg (fun e => hb (by rw [e]))]

/-- What the rounds of an abort go by. -/
structure Abx (W1 : World) (s : Sv) (q : Nat) (lg : List (EntV × Int)) (t : Int) (x : TxE) (es : List EntV) : Prop where
  lies : Lies W1 s
  good : Good s
  held : Held s q
  cap : Cap s
  log : Logd s lg
  ht : 0 ≤ t ∧ t < 256
  hx : s.tx t = some x
  last : x.last ≤ s.len
  fits : ∀ e ∈ es, e.Fits ∧ norm (e.oldIs, e.old) = (e.oldIs, e.old)
  all : ∀ e ∈ es, holdOf x.H e.key = 2
  room : s.len + es.length + 1 ≤ 391

/-- What is in V is no part of the store, and lies as it lay in w0. -/
def Priv (V : Nat → Prop) (w0 w : World) (s' : Sv) : Prop := ∀ q, V q → q < w.heap.size ∧ (∀ tag, s'.blk tag ≠ some q) ∧ w.heap[q]? = w0.heap[q]?
theorem Priv.go {V : Nat → Prop} {w0 w w' : World} {s s' : Sv} (h : Priv V w0 w s) (g : Goes w w' s s') : Priv V w0 w' s' := fun q hq => by
  obtain ⟨h1, h2, h3⟩ := h q hq
  refine ⟨by have := g.below.size; omega, fun tag ht => ?_, (g.off q h1 h2).trans h3⟩
  rcases g.grown tag q ht with h4 | h4
  · exact h2 tag h4
  · omega
/-- So many entries are in the log, so many keys set. -/
def Ab (W1 : World) (s : Sv) (lg : List (EntV × Int)) (t : Int) (x : TxE) (es : List EntV) (V : Nat → Prop) (w0 : World) (n j : Nat) (w : World) : Prop := ∃ s' x' lx, Priv V w0 w s' ∧ SetTo s s' t x' n j (contBack s.cont ((es.take j).map upOf)) ∧ (x'.H = x.H ∧ x'.nH = x.nH ∧ x'.last ≤ s'.len) ∧ Logd s' (lg ++ lx) ∧ Goes W1 w s s'

theorem norm_nil {c : Bool × ByteArray} (h : norm c = c) (hf : c.1 = false) : c.2.size = 0 := by
  unfold norm at h
  rw [hf] at h
  rw [← h]; rfl

/-- core.enter within an abort. -/
theorem Abx.enter {W1 W : World} {s : Sv} {q : Nat} {lg : List (EntV × Int)} {t : Int} {x : TxE} {es : List EntV} (C : Abx W1 s q lg t x es) (e : EntV) (he : (0 ≤ e.kind ∧ e.kind < 256) ∧ (0 ≤ e.next ∧ e.next < 65536) ∧ e.key.size ≤ 8 ∧ e.old.size ≤ 12 ∧ e.new.size ≤ 12) (ho : e.oldIs = false → e.old.size = 0) (hn : e.newIs = false → e.new.size = 0) {V : Nat → Prop} {w0 : World} {n j : Nat} (hni : n ≤ es.length) (h : Ab W1 s lg t x es V w0 n j W) :
    Calls Tryz.prog 288 #[.pointer (some ⟨s.kb, 0, none⟩), .int .i64 t, .agg e.cells] W fun r w' => r = .returned (.tuple #[]) ∧ Ab W1 s lg t x es V w0 (n + 1) j w' := by
  obtain ⟨s', x', lx, hpv, h1, hH, hlog, h2⟩ := h
  have hr := C.room
  have hl := h1.nums.1
  have hx' : s'.tx t = some x' := by rw [h1.tx]; simp
  have hfit : EntV.Fits { e with tx := t, prev := (x'.last : Int) } := ⟨he.1, C.ht, ⟨by simp only; omega, by simp only; omega⟩, he.2.1, he.2.2.1, he.2.2.2.1, he.2.2.2.2⟩
  have hct := h2.good.ct
  have hac := h2.good.ac
  have K := enter_step h2.lies h2.good (h1.held ⟨hH.1, hH.2.1⟩ C.hx C.held) (by omega) t C.ht x' hx' e hfit
  rw [h1.same.1] at K
  refine K.mono ?_
  rintro r w' ⟨e1, v', g2, _⟩
  refine ⟨e1, entered s' t x' e v', { x' with last := s'.len + 1 }, lx ++ [({ e with tx := t, prev := (x'.last : Int) }, s'.count + 1)], hpv.go g2, ⟨h1.cont, ?_, ⟨?_, h1.nums.2⟩, h1.same⟩, ⟨hH.1, hH.2.1, Nat.le_refl _⟩, ?_, h2.trans g2⟩
  · funext u
    show (if u = t then some { x' with last := s'.len + 1 } else s'.tx u) = _
    by_cases hu : u = t
    · rw [if_pos hu, if_pos hu]
    · rw [if_neg hu, if_neg hu, h1.tx]; simp [hu]
  · show s'.len + 1 = s.len + (n + 1)
    rw [hl]; omega
  · rw [← List.append_assoc]
    exact hlog.snoc (by omega) _ (s'.count + 1) v' rfl rfl rfl rfl (by omega) hfit ho hn

/-- pool.set within an abort. -/
theorem Abx.set {W1 W : World} {s : Sv} {q : Nat} {lg : List (EntV × Int)} {t : Int} {x : TxE} {es : List EntV} (C : Abx W1 s q lg t x es) {V : Nat → Prop} {w0 : World} {i : Nat} (hi : i < es.length) (h : Ab W1 s lg t x es V w0 (i + 1) i W) :
    Calls Tryz.prog 80 #[.pointer (some ⟨s.kb, 2, none⟩), .string es[i].key, .agg #[.bool es[i].oldIs, .string es[i].old]] W fun r w' => r = .returned (.tuple #[]) ∧ Ab W1 s lg t x es V w0 (i + 1) (i + 1) w' := by
  obtain ⟨s', x', lx, hpv, h1, hH, hlog, h2⟩ := h
  have hmem : es[i] ∈ es := List.getElem_mem hi
  have hnr : ∀ u ∈ (es.take i).map upOf, norm u.2 = u.2 := fun u hu => by
    obtain ⟨e, he, rfl⟩ := List.mem_map.1 hu
    exact (C.fits e (List.mem_of_mem_take he)).2
  obtain ⟨f1, f2, f3⟩ := contBack_facts ((es.take i).map upOf) s.cont (fun n hn => (C.good.rise n hn).1) hnr
  have hmc := C.good.mcn
  have hn := h1.nums
  have hfe := (C.fits es[i] hmem).1
  have hfit : (withL (s'.cont (bucket es[i].key)) es[i].key es[i].oldIs es[i].old).length ≤ 4 := by
    rw [h1.cont]
    obtain ⟨L, l1, l2⟩ := C.cap _ (bucket_lt es[i].key)
    have hnd := rising_nodup (withL_rising (f1 _ (bucket_lt es[i].key)) es[i].key es[i].oldIs es[i].old)
    rw [← List.length_map (f := (·.1))]
    refine Nat.le_trans (hnd.length_le_of_subset fun k hk' => ?_) l1
    obtain ⟨p, hp, rfl⟩ := List.mem_map.1 hk'
    have hheld : ∀ e, e ∈ es → bucket e.key = bucket es[i].key → e.key ∈ L := fun e h3 h4 => l2 _ (.inr ⟨h4, t, x, C.hx, C.all e h3⟩)
    rcases withL_mem (f1 _ (bucket_lt es[i].key)) _ _ _ hp with h3 | ⟨_, h3⟩
    · rcases f2 _ (bucket_lt es[i].key) p h3 with h4 | ⟨⟨u, hu, e5⟩, h5⟩
      · exact l2 _ (.inl ⟨p, h4, rfl⟩)
      · obtain ⟨e, he, rfl⟩ := List.mem_map.1 hu
        have e6 : e.key = p.1 := e5
        rw [← e6] at h5 ⊢
        exact hheld e (List.mem_of_mem_take he) h5
    · rw [h3]; exact hheld _ hmem rfl
  have K := set_step h2.lies h2.good es[i].key hfe.key es[i].oldIs es[i].old hfe.old (by omega) hfit
  rw [h1.same.1, h1.cont] at K
  refine K.mono ?_
  rintro r w' ⟨e1, s1, p', hp, g2⟩
  obtain ⟨P, mm, rfl, hmm⟩ := hp
  refine ⟨e1, ({ s' with pgs := P, mp := mm } : Sv).put (bucket es[i].key) p' (withL (contBack s.cont ((es.take i).map upOf) (bucket es[i].key)) es[i].key es[i].oldIs es[i].old), x', lx, hpv.go g2, ⟨?_, h1.tx, ⟨hn.1, hn.2.1, hn.2.2.1, hn.2.2.2.1, ?_⟩, h1.same⟩, hH, hlog.same rfl rfl rfl rfl, h2.trans g2⟩
  · rw [List.take_add_one, List.getElem?_eq_getElem hi]
    show (fun n => if n = bucket es[i].key then withL (contBack s.cont ((es.take i).map upOf) (bucket es[i].key)) es[i].key es[i].oldIs es[i].old else s'.cont n) = contBack s.cont ((es.take i ++ [es[i]]).map upOf)
    rw [List.map_append]
    show _ = contBack s.cont ((es.take i).map upOf ++ [upOf es[i]])
    rw [contBack_snoc, h1.cont]
    funext n
    by_cases hb : n = bucket es[i].key
    · simp only [upOf, hb, if_true]
    · simp only [upOf, hb, if_false]
  · show s'.mc.n + 1 = s.mc.n + (i + 1)
    rw [hn.2.2.2.2]; omega

theorem Ab.start {W1 w : World} {s : Sv} {lg : List (EntV × Int)} {t : Int} {x : TxE} {es : List EntV} (h : Lies W1 s) (g : Good s) (hl : Logd s lg) (hx : s.tx t = some x) (hlast : x.last ≤ s.len) : Ab W1 s lg t x es (fun _ => False) w 0 0 W1 := by
  have htx : s.tx = fun u => if u = t then some x else s.tx u := by
    funext u
    by_cases hu : u = t
    · rw [if_pos hu, hu]; exact hx
    · rw [if_neg hu]
  exact ⟨s, x, [], fun q hq => hq.elim, ⟨rfl, htx, ⟨rfl, rfl, rfl, rfl, rfl⟩, rfl, rfl, rfl, rfl⟩, ⟨rfl, rfl, hlast⟩, by rw [List.append_nil]; exact hl, Goes.refl h g⟩
/-- A variable of one's own is made. -/
theorem Ab.var {W1 w w0 : World} {s : Sv} {lg : List (EntV × Int)} {t : Int} {x : TxE} {es : List EntV} {V : Nat → Prop} {n j : Nat} (h : Ab W1 s lg t x es V w0 n j w) (o : Obj) : Ab W1 s lg t x es (fun q => q = w.heap.size) (w.alloc o) n j (w.alloc o) := by
  obtain ⟨s', x', lx, _, h1, hH, hlog, h2⟩ := h
  have hb : Below w.heap.size w (w.alloc o) := (Below.refl _ w).alloc (Nat.le_refl _) _
  exact ⟨s', x', lx, fun q hq => ⟨by rw [hq]; simp, fun tag ht => by have := h2.lies.lt tag q ht; omega, rfl⟩, h1, hH, hlog, h2.on_below hb⟩
theorem Ab.drew {W1 w w0 : World} {s : Sv} {lg : List (EntV × Int)} {t : Int} {x : TxE} {es : List EntV} {V : Nat → Prop} {n j : Nat} (h : Ab W1 s lg t x es V w0 n j w) : Ab W1 s lg t x es V w0 n j w.drew := by
  obtain ⟨s', x', lx, hpv, h1, hH, hlog, h2⟩ := h
  exact ⟨s', x', lx, hpv, h1, hH, hlog, h2.drew⟩
theorem Ab.free {W1 w w0 w1 : World} {s : Sv} {lg : List (EntV × Int)} {t : Int} {x : TxE} {es : List EntV} {V : Nat → Prop} {n j : Nat} (h : Ab W1 s lg t x es V w0 n j w) : Ab W1 s lg t x es (fun _ => False) w1 n j w := by
  obtain ⟨s', x', lx, _, h1, hH, hlog, h2⟩ := h
  exact ⟨s', x', lx, fun q hq => hq.elim, h1, hH, hlog, h2⟩
theorem Ab.kept {W1 w w0 : World} {s : Sv} {lg : List (EntV × Int)} {t : Int} {x : TxE} {es : List EntV} {V : Nat → Prop} {n j : Nat} (h : Ab W1 s lg t x es V w0 n j w) {q : Nat} (hq : V q) : w.heap[q]? = w0.heap[q]? := by
  obtain ⟨s', x', lx, hpv, _⟩ := h
  exact (hpv q hq).2.2
end Go.Proofs.YtihbngfbcnojcaaGreat

namespace Go.Proofs.YtihbngfbcnojcaaGreat
open Go.RowKit

/-- What an abort leaves of a store that changes its pages at once. -/
structure Acom (s s' : Sv) (t : Int) (c : Nat → Pairs) (n : Nat) : Prop where
  cont : s'.cont = c
  tx : s'.tx = fun u => if u = t then none else s.tx u
  nums : s'.acts = s.acts ∧ s'.begun = s.begun ∧ s'.kb = s.kb ∧ s'.mo.M = s.mo.M.del (.int .i64 t) ∧ s.len ≤ s'.len ∧ s'.len ≤ s.len + n

theorem norm_of_nil {c : Bool × ByteArray} (h : c.1 = false → c.2.size = 0) : norm c = c := by
  unfold norm
  obtain ⟨i, v⟩ := c
  cases i with
  | true => rfl
  | false =>
    have hv : v = ByteArray.empty := by
      have h0 : v.size = 0 := h rfl
      cases v with
      | mk d =>
        have : d = #[] := Array.eq_empty_of_size_eq_zero h0
        rw [this]; rfl
    simp only [Bool.false_eq_true, if_false]
    rw [hv]

/-- .. all together. -/
def Aborted (w : World) (s : Sv) (q : Nat) (lg : List (EntV × Int)) (t : Int) (ups : List (ByteArray × (Bool × ByteArray))) (w' : World) : Prop := ∃ s' lx, Acom s s' t (contBack s.cont ups) (ups.length + 1) ∧ Logd s' (lg ++ lx) ∧ Goes w w' s s' ∧ Held s' q

/-- delete(open, t) behind an abort. -/
theorem Abx.fin {W1 W w0 : World} {s : Sv} {q : Nat} {lg : List (EntV × Int)} {t : Int} {x : TxE} {es : List EntV} (C : Abx W1 s q lg t x es) {V : Nat → Prop} {n : Nat} (hn : n ≤ es.length + 1) (h : Ab W1 s lg t x es V w0 n es.length W) :
    W.cell? ⟨s.kb, 5, none⟩ = some (.map (some s.mo.b)) ∧ ∃ w', (Builtin.delete_ #[227, 3] 0 #[.map (some s.mo.b), .int .i64 t]).run Tryz.prog W = .ok (.tuple #[]) w' ∧ ∃ s' lx, Acom s s' t (contBack s.cont (es.map upOf)) (es.length + 1) ∧ Logd s' (lg ++ lx) ∧ Goes W1 w' s s' ∧ Held s' q := by
  obtain ⟨s', x', lx, _, h1, hH, hlog, h2⟩ := h
  have ht := C.ht
  have a1 : W.cell? ⟨s'.kb, 5, none⟩ = some (.map (some s'.mo.b)) := cell_at (h2.lies.comp .kind) (cells_of s' (j := 5) (by omega) rfl)
  obtain ⟨w', hdel, hgo⟩ := end_run h2.lies h2.good t ⟨by omega, by omega⟩ 0
  rw [h1.same.1, h1.same.2.1] at a1
  rw [h1.same.2.1] at hdel
  refine ⟨a1, w', hdel, ended s' t, lx, ⟨?_, ?_, h1.nums.2.1, h1.nums.2.2.1, h1.same.1, ?_, ?_, ?_⟩, hlog.same rfl rfl rfl rfl, h2.trans hgo, ended_held (h1.held ⟨hH.1, hH.2.1⟩ C.hx C.held) t⟩
  · show s'.cont = _
    rw [h1.cont, List.take_length]
  · funext u
    show (if u = t then none else s'.tx u) = _
    by_cases hu : u = t
    · rw [if_pos hu, if_pos hu]
    · rw [if_neg hu, if_neg hu, h1.tx]; simp [hu]
  · show s'.mo.M.del _ = _
    rw [h1.same.2.1]
  · show s.len ≤ s'.len
    rw [h1.nums.1]; omega
  · show s'.len ≤ _
    rw [h1.nums.1]; omega

set_option maxRecDepth 100000 in
set_option maxHeartbeats 8000000 in
/-- (*steal).Abort. -/
theorem stealAbort_step {w : World} {s : Sv} {q : Nat} {lg : List (EntV × Int)} (h : Lies w s) (g : Good s) (hh : Held s q) (hc : Cap s) (hl : Logd s lg) (t : Int) (ht : 0 ≤ t ∧ t < 256) (x : TxE) (hx : s.tx t = some x) (hlast : x.last ≤ s.len) (ups : List (ByteArray × (Bool × ByteArray))) (hch : Chain lg x.last ups) (hall : ∀ u ∈ ups, holdOf x.H u.1 = 2) (hroom : s.len + ups.length + 1 ≤ 391) :
    Calls Tryz.prog 299 #[.pointer (some ⟨s.kb, 0, none⟩), .int .i64 t] w fun e w' => e = .returned (.tuple #[]) ∧ Aborted w s q lg t ups w' := by
  have hti : IsInt t := ⟨by omega, by omega⟩
  have hlg : lg.length ≤ 400 := by rw [hl.len]; have := g.ln; omega
  have KE := @id (Hid (Calls _ _ _ w _)) (entries_step h g hl)
  have KB : Hid (∀ W vE, Below w.heap.size w W → W.ownsRow w.heap.size 152 9 vE lg.length (logCells (lg.map (·.1))) → Calls Tryz.prog 305 #[.pointer (some ⟨s.kb, 0, none⟩), .int .i64 t, vE] W fun e w' => ∃ v es, e = .returned v ∧ w'.ownsRow W.heap.size 152 9 v es.length (logCells es) ∧ es.map upOf = ups ∧ (∀ e ∈ es, ∃ p ∈ lg, p.1 = e) ∧ Below W.heap.size W w') := fun W vE hW hr => backward_step (h.below hW) g t hti x hx _ vE hr hlg ups hch
  have HC : Hid (∀ W2 es, Below w.heap.size w W2 → es.map upOf = ups → (∀ e ∈ es, ∃ p ∈ lg, p.1 = e) → Abx W2 s q lg t x es ∧ Ab W2 s lg t x es (fun _ => False) W2 0 0 W2 ∧ es.length = ups.length) := fun W2 es hW he hin => by
    have hlen : es.length = ups.length := by rw [← he, List.length_map]
    refine ⟨⟨h.below hW, g, hh, hc, hl, ht, hx, hlast, fun e hm => ?_, fun e hm => ?_, by omega⟩, Ab.start (h.below hW) g hl hx hlast, hlen⟩
    · obtain ⟨p, hp, rfl⟩ := hin e hm
      obtain ⟨i, hi, rfl⟩ := List.getElem_of_mem hp
      obtain ⟨_, _, _, h4, h5, _⟩ := hl.at' i hi
      exact ⟨h4, norm_of_nil h5⟩
    · exact hall (upOf e) (by rw [← he]; exact List.mem_map.2 ⟨e, hm, rfl⟩)
  have HP : Hid (∀ q', w.heap.size ≤ q' → ∀ tag, s.blk tag ≠ some q') := fun q' hq' tag ht' => by have := h.lt tag _ ht'; omega
  have HG : Hid (∀ W2, Below w.heap.size w W2 → Goes w W2 s s) := fun W2 hW => Goes.of_below h g hW
  generalize hkb : s.kb = kb at KE KB ⊢
  clear h g hh hc hl hall hch
  go_enter Tryz.func299, Tryz.ntmps299
  go_wp2_with (first
    | (go_at_call 290; go_must (
        refine KE.out.mono ?_
        rintro e w1 ⟨vE, rfl, hr1, hb1⟩
        have H1 : Hid (w1.ownsRow w.heap.size 152 9 vE lg.length (logCells (lg.map (·.1))) ∧ Below w.heap.size w w1) := ⟨hr1, hb1⟩
        clear hr1 hb1))
    | (go_at_call 305; go_must (
        refine (KB.out w1 vE H1.out.2 H1.out.1).mono ?_
        rintro e w2 ⟨v, es, rfl, hr2, he2, hin2, hb2⟩
        obtain ⟨p, cap, rfl, hmax⟩ := owns_slice' hr2
        have HB2 : Hid (Below w.heap.size w w2) := H1.out.2.trans (hb2.mono H1.out.2.size)
        have HROW : Hid (w2.ownsRow w.heap.size 152 9 (.slice p es.length cap) es.length (logCells es)) := owns_base hr2 H1.out.2.size
        have HAB : Hid (Abx w2 s q lg t x es ∧ Ab w2 s lg t x es (fun _ => False) w2 0 0 w2 ∧ es.length = ups.length) := HC.out w2 es (H1.out.2.trans (hb2.mono H1.out.2.size)) he2 hin2
        have HUP : Hid (es.map upOf = ups) := he2
        clear hr2 he2 hin2 hb2 hmax)))
  have helb : es.length ≤ 391 := by have := HAB.out.1.room; omega
  go_loopw [17] (fun iv wr => ∃ i : Nat, i ≤ es.length ∧ iv = .int .i64 i ∧ Ab w2 s lg t x es (fun _ => False) w2 i i wr) (fun iv _ => es.length - (intOf iv).toNat)
  case atStart => exact ⟨0, by omega, rfl, HAB.out.2.1⟩
  case round =>
    obtain ⟨i, hi, rfl, hab⟩ := hrel
    have HA : Hid (Ab w2 s lg t x es (fun _ => False) w2 i i wr) := hab
    clear hab
    by_cases hlt : i < es.length
    · have hlt' : (i : Int) < (es.length : Int) := by omega
      obtain ⟨gE, cap', he⟩ := owns_some HROW.out (by omega)
      simp only [Value.slice.injEq] at he
      obtain ⟨rfl, -, rfl⟩ := he
      have hgE := HROW.out.lt gE rfl
      have hrw : wr.ownsRow w.heap.size 152 9 (.slice (some ⟨gE, 0, none⟩) es.length cap) es.length (logCells es) := by
        obtain ⟨s', x', lx, _, _, _, _, h2⟩ := HA.out
        refine owns_off HROW.out (fun k hk => ?_)
        have hkk : k = gE := by simpa [Value.ownBlock] using hk.symm
        subst hkk
        exact h2.off k hgE.2 (HP.out k hgE.1)
      have hget : es[i]? = some es[i] := List.getElem?_eq_getElem hlt
      have a0 := owns_cell hrw (logCells_at es i _ hget 0 (.int .i64 es[i].kind) rfl)
      have a1 := owns_cell hrw (logCells_at es i _ hget 1 (.int .i64 es[i].tx) rfl)
      have a2 := owns_cell hrw (logCells_at es i _ hget 2 (.int .i64 es[i].prev) rfl)
      have a3 := owns_cell hrw (logCells_at es i _ hget 3 (.int .i64 es[i].next) rfl)
      have a4 := owns_cell hrw (logCells_at es i _ hget 4 (.string es[i].key) rfl)
      have a5 := owns_cell hrw (logCells_at es i _ hget 5 (.bool es[i].oldIs) rfl)
      have a6 := owns_cell hrw (logCells_at es i _ hget 6 (.string es[i].old) rfl)
      have a7 := owns_cell hrw (logCells_at es i _ hget 7 (.bool es[i].newIs) rfl)
      have a8 := owns_cell hrw (logCells_at es i _ hget 8 (.string es[i].new) rfl)
      rw [Nat.add_zero] at a0
      have hmem : es[i] ∈ es := List.getElem_mem hlt
      obtain ⟨hfit, hnrm⟩ := HAB.out.1.fits es[i] hmem
      have KN : Hid (∀ (V : Nat → Prop) (w0 W : World), Ab w2 s lg t x es V w0 i i W → Calls Tryz.prog 288 #[.pointer (some ⟨kb, 0, none⟩), .int .i64 t, .agg #[.int .i64 2, .int .i64 0, .int .i64 0, .int .i64 es[i].prev, .string es[i].key, .bool false, .string ByteArray.empty, .bool es[i].oldIs, .string es[i].old]] W fun r w' => r = .returned (.tuple #[]) ∧ Ab w2 s lg t x es V w0 (i + 1) i w') := fun V w0 W hW => by
        rw [← hkb]
        exact HAB.out.1.enter ⟨2, 0, 0, es[i].prev, es[i].key, false, ByteArray.empty, es[i].oldIs, es[i].old⟩ ⟨by simp, hfit.prev, hfit.key, by simp, hfit.old⟩ (fun _ => rfl) (fun h0 => norm_nil hnrm h0) (by omega) hW
      have KS : Hid (∀ (V : Nat → Prop) (w0 W : World), Ab w2 s lg t x es V w0 (i + 1) i W → Calls Tryz.prog 80 #[.pointer (some ⟨kb, 2, none⟩), .string es[i].key, .agg #[.bool es[i].oldIs, .string es[i].old]] W fun r w' => r = .returned (.tuple #[]) ∧ Ab w2 s lg t x es V w0 (i + 1) (i + 1) w') := fun V w0 W hW => by
        rw [← hkb]
        exact HAB.out.1.set hlt hW
      clear hrw hget hfit hnrm hmem
      generalize es[i] = e at a0 a1 a2 a3 a4 a5 a6 a7 a8 KN KS
      obtain ⟨kind, tx, prev, next, key, oldIs, old, newIs, new⟩ := e
      simp only at a0 a1 a2 a3 a4 a5 a6 a7 a8 KN KS
      obtain ⟨W3, hW3⟩ : ∃ W3, W3 = wr.alloc (.cells #[.int .i64 kind, .int .i64 tx, .int .i64 prev, .int .i64 next, .string key, .bool oldIs, .string old, .bool newIs, .string new] 152) := ⟨_, rfl⟩
      have HV : Hid (Ab w2 s lg t x es (fun q => q = wr.heap.size) W3 i i W3) := by rw [hW3]; exact HA.out.var _
      have HN3 : Hid (W3.heap[wr.heap.size]? = some (.cells #[.int .i64 kind, .int .i64 tx, .int .i64 prev, .int .i64 next, .string key, .bool oldIs, .string old, .bool newIs, .string new] 152 (0, 0))) := by rw [hW3]; exact heap_alloc_new wr _
      have HCL : Hid (∀ W n j, Ab w2 s lg t x es (fun q => q = wr.heap.size) W3 n j W → W.cell? ⟨wr.heap.size, 2, none⟩ = some (.int .i64 prev) ∧ W.cell? ⟨wr.heap.size, 4, none⟩ = some (.string key) ∧ W.cell? ⟨wr.heap.size, 5, none⟩ = some (.bool oldIs) ∧ W.cell? ⟨wr.heap.size, 6, none⟩ = some (.string old)) := fun W n j hW => by
        have hq := (hW.kept rfl).trans HN3.out
        exact ⟨cell_at (j := 2) hq rfl, cell_at (j := 4) hq rfl, cell_at (j := 5) hq rfl, cell_at (j := 6) hq rfl⟩
      obtain ⟨b2, b4, b5, b6⟩ := HCL.out W3 i i HV.out
      go_upto_region 4 with fail
      rw [← hW3]
      clear hW3 a0 a1 a2 a3 a4 a5 a6 a7 a8
      go_region_held3 (fun w' => w'.cell? ⟨wr.heap.size, 2, none⟩ = some (.int .i64 prev) ∧ w'.cell? ⟨wr.heap.size, 4, none⟩ = some (.string key) ∧ w'.cell? ⟨wr.heap.size, 5, none⟩ = some (.bool oldIs) ∧ w'.cell? ⟨wr.heap.size, 6, none⟩ = some (.string old))
        (go_keep)
        (first
          | (go_at_call 288; go_must (
              refine (KN.out _ _ _ HV.out.drew).mono ?_
              rintro e w4 ⟨rfl, hr4⟩
              have H4 := @id (Hid (Ab _ _ _ _ _ _ _ _ _ _ w4)) hr4
              obtain ⟨d2, d4, d5, d6⟩ := HCL.out w4 _ _ hr4
              clear hr4)))
      all_goals
        go_wp2
        go_region_held3 (fun w' => w'.cell? ⟨wr.heap.size, 4, none⟩ = some (.string key) ∧ w'.cell? ⟨wr.heap.size, 5, none⟩ = some (.bool oldIs) ∧ w'.cell? ⟨wr.heap.size, 6, none⟩ = some (.string old))
          (go_keep)
          (first
            | (go_at_call 80; go_must (
                refine (KS.out _ _ _ H4.out.drew).mono ?_
                rintro e w5 ⟨rfl, hr5⟩
                have H5 := @id (Hid (Ab _ _ _ _ _ _ _ _ _ _ w5)) hr5
                obtain ⟨f2, f4, f5, f6⟩ := HCL.out w5 _ _ hr5
                clear hr5)))
        all_goals
          go_wp2
          exact ⟨⟨i + 1, by omega, by simp, H5.out.free⟩, by simp [intOf]; omega⟩
    · obtain rfl : i = es.length := by omega
      have KN : Hid (Calls Tryz.prog 288 #[.pointer (some ⟨kb, 0, none⟩), .int .i64 t, .agg #[.int .i64 4, .int .i64 0, .int .i64 0, .int .i64 0, .string ByteArray.empty, .bool false, .string ByteArray.empty, .bool false, .string ByteArray.empty]] wr fun r w' => r = .returned (.tuple #[]) ∧ Ab w2 s lg t x es (fun _ => False) w2 (es.length + 1) es.length w') := by
        rw [← hkb]
        exact HAB.out.1.enter ⟨4, 0, 0, 0, ByteArray.empty, false, ByteArray.empty, false, ByteArray.empty⟩ ⟨by simp, by simp, by simp, by simp, by simp⟩ (fun _ => rfl) (fun _ => rfl) (Nat.le_refl _) HA.out
      have HFN : Hid (∀ W n, n ≤ es.length + 1 → Ab w2 s lg t x es (fun _ => False) w2 n es.length W → W.cell? ⟨kb, 5, none⟩ = some (.map (some s.mo.b)) ∧ ∃ w', (Builtin.delete_ #[227, 3] 0 #[.map (some s.mo.b), .int .i64 t]).run Tryz.prog W = .ok (.tuple #[]) w' ∧ Aborted w s q lg t ups w') := fun W n hn hW => by
        obtain ⟨b1, w', b2, s', lx, b3, b4, b5, b6⟩ := HAB.out.1.fin hn hW
        rw [HUP.out, HAB.out.2.2] at b3
        rw [hkb] at b1
        exact ⟨b1, w', b2, s', lx, b3, b4, (HG.out w2 HB2.out).trans b5, b6⟩
      by_cases h0 : es.length = 0
      · obtain ⟨c5, w3, hdel, hfin⟩ := HFN.out wr _ (by omega) HA.out
        have HX := @id (Hid _) hfin
        have hgt : ¬ (0 : Int) < (es.length : Int) := by omega
        clear hfin KN
        go_wp2
        go_end0
        exact ⟨rfl, HX.out⟩
      · have hgt : (0 : Int) < (es.length : Int) := by omega
        go_wp2_with (first
          | (go_at_call 288; go_must (
              refine KN.out.mono ?_
              rintro e w3 ⟨rfl, hr3⟩
              obtain ⟨c5, w4, hdel, hfin⟩ := HFN.out w3 _ (Nat.le_refl _) hr3
              have HX := @id (Hid _) hfin
              clear hr3 hfin)))
        go_end0
        exact ⟨rfl, HX.out⟩
end Go.Proofs.YtihbngfbcnojcaaGreat

namespace Go.Proofs.YtihbngfbcnojcaaGreat
open Go.RowKit

/-- A transaction is over, and nothing of it is left. -/
def Sp.abort (P : Sp) (t : Int) (p : TxP) : Sp := { P with tx := fun u => if u = t then none else P.tx u, nopen := P.nopen - 1, len := P.len + p.ups.length + 1 }

theorem Chain.norm {lg : List (EntV × Int)} (h : ∀ p ∈ lg, Go.Proofs.YtihbngfbcnojcaaGreat.norm (p.1.oldIs, p.1.old) = (p.1.oldIs, p.1.old)) : ∀ {n : Nat} {l : List (ByteArray × (Bool × ByteArray))}, Chain lg n l → ∀ u ∈ l, Go.Proofs.YtihbngfbcnojcaaGreat.norm u.2 = u.2
  | _, [], _, u, hu => (List.not_mem_nil hu).elim
  | n, v :: r, ⟨e, c, m, _, h2, _, h4, _, _, h7⟩, u, hu => by
    rcases List.mem_cons.1 hu with rfl | hu
    · have := h _ (List.mem_of_getElem? h2)
      rw [h4] at this
      exact this
    · exact Chain.norm h h7 u hu

theorem Logd.norms {s : Sv} {lg : List (EntV × Int)} (h : Logd s lg) : ∀ p ∈ lg, norm (p.1.oldIs, p.1.old) = (p.1.oldIs, p.1.old) := fun p hp => by
  obtain ⟨i, hi, rfl⟩ := List.getElem_of_mem hp
  exact norm_of_nil (h.at' i hi).2.2.2.2.1

/-- What both kinds have in common at an abort. -/
theorem rel_abort_any {w : World} {k : Bool} {s s' : Sv} {P : Sp} {t : Int} {p : TxP} (L : Lies w s) (g : Good s) (h : Rel k s P) (hp : P.tx t = some p) (htx : s'.tx = fun u => if u = t then none else s.tx u) (hnum : s'.begun = s.begun ∧ s'.acts = s.acts) (hlen : s.len ≤ s'.len ∧ s'.len ≤ s.len + (p.ups.length + 1)) (hmo : s'.mo.M = s.mo.M.del (.int .i64 t)) (hbk : Buck s')
    (hst : k = true → (∃ lg, Logd s' lg ∧ ∀ u p' y, (P.abort t p).tx u = some p' → s'.tx u = some y → Chain lg y.last p'.ups) ∧ (∀ u p' k' c', u ≠ t → P.tx u = some p' → p'.wrote k' = some c' → under (s'.cont (bucket k')) k' = c') ∧ ∀ key, (∀ u p', u ≠ t → P.tx u = some p' → p'.wrote key = none) → under (s'.cont (bucket key)) key = P.comm key)
    (hbs : k = false → (∃ md, Made s' md) ∧ (s'.mt = fun u => if u = t then none else s.mt u) ∧ s'.cont = s.cont) : Rel k s' (P.abort t p) := by
  have hsome : ∀ u p', (P.abort t p).tx u = some p' → u ≠ t ∧ P.tx u = some p' := fun u p' hp' => by
    simp only [Sp.abort] at hp'
    split at hp'
    · cases hp'
    · rename_i he
      exact ⟨he, hp'⟩
  obtain ⟨x, hx, _, _⟩ := h.tx1 t p hp
  refine ⟨fun u hu => ?_, fun u p' hp' => ?_, ⟨by rw [hnum.1]; exact h.nums.1, by rw [hnum.2]; exact h.nums.2.1, by have := h.nums.2.2; show s'.len ≤ P.len + p.ups.length + 1; omega⟩, fun u hu => ?_, fun u p' hp' => h.pos u p' (hsome u p' hp').2, ?_, hbk, fun u1 u2 p1 p2 k' hp1 hp2 h1 h2 => h.one u1 u2 p1 p2 k' (hsome _ _ hp1).2 (hsome _ _ hp2).2 h1 h2, ⟨h.nrm.1, fun u p' k' c' hp' hc' => h.nrm.2 u p' k' c' (hsome _ _ hp').2 hc'⟩, fun u p' k' hp' => h.rd u p' k' (hsome _ _ hp').2, fun u p' hp' => h.ups u p' (hsome _ _ hp').2, fun hk => ?_, fun hk => ?_⟩
  · rw [htx]
    show (if u = t then none else s.tx u) = none
    by_cases hut : u = t
    · rw [if_pos hut]
    · rw [if_neg hut]
      simp only [Sp.abort] at hu
      rw [if_neg hut] at hu
      exact h.tx0 u hu
  · obtain ⟨hu, hp''⟩ := hsome u p' hp'
    obtain ⟨y, h1, h2, h3⟩ := h.tx1 u p' hp''
    exact ⟨y, by rw [htx]; show (if u = t then none else s.tx u) = _; rw [if_neg hu]; exact h1, by omega, h3⟩
  · have hu' : (P.next : Int) < u := hu
    simp only [Sp.abort]
    split
    · rfl
    · exact h.fut u hu'
  · show Maps.size s'.mo.M = P.nopen - 1
    have h1 := Maps.size_del (k := .int .i64 t) (mo_tidy L)
    rw [open_has g, hx, h.cnt] at h1
    simp only [Option.isSome_some, if_true] at h1
    rw [hmo]; omega
  · obtain ⟨h1, h2, h3⟩ := hst hk
    refine ⟨h1, fun u p' k' c' hp' hc' => h2 u p' k' c' (hsome _ _ hp').1 (hsome _ _ hp').2 hc', fun key hno => h3 key fun u p' hu hp' => hno u p' (by simp only [Sp.abort]; rw [if_neg hu]; exact hp')⟩
  · obtain ⟨h1, h2, h3⟩ := hbs hk
    obtain ⟨_, b2, b3, b4⟩ := h.beside hk
    refine ⟨h1, fun u hu => ?_, fun u p' hp' key => ?_, fun key => by rw [h3]; exact b4 key⟩
    · rw [h2]
      show (if u = t then none else s.mt u) = none
      by_cases hut : u = t
      · rw [if_pos hut]
      · rw [if_neg hut]
        simp only [Sp.abort] at hu
        rw [if_neg hut] at hu
        exact b2 u hu
    · obtain ⟨hu, hp''⟩ := hsome u p' hp'
      show (s'.mt u).bind _ = _
      rw [h2]
      show (if u = t then none else s.mt u).bind _ = _
      rw [if_neg hu]; exact b3 u p' hp'' key

/-- Abort of a store that keeps writes beside the pages. -/
theorem abort_beside {w : World} {a : Nat} {P : Sp} {X : Nat → Prop} {q : Nat} (S : Store w a false P X q) (t : Int) (ht : t < 256) (p : TxP) (hp : P.tx t = some p) :
    Calls Tryz.prog 25 #[.pointer (some ⟨a, 0, none⟩), .int .i64 t] w fun e w' => e = .returned (.int .i64 0) ∧ Then w w' a false (P.abort t p) X q := by
  obtain ⟨s, L, R, hX⟩ := S
  obtain ⟨x, hx, hlast, hhold⟩ := R.tx1 t p hp
  have hpos := R.pos t p hp
  obtain ⟨⟨md, hmd⟩, b2, b3, b4⟩ := R.beside rfl
  have hti : IsInt t := ⟨by omega, by omega⟩
  refine (storeAbort_noSteal L t hti x hx (fun s' => s' = ended (unmade s md t) t ∧ (∃ md', Made s' md') ∧ Held s' q) (fun W hW => (noStealAbort_step hW L.good L.held hmd t hti).mono ?_)).mono ?_
  · rintro e w' ⟨h1, h2, h3, h4⟩
    exact ⟨h1, _, ⟨rfl, ⟨_, h4⟩, h3⟩, h2⟩
  · rintro e w' ⟨h1, s', ⟨rfl, h2, h3⟩, h4⟩
    refine ⟨h1, then_of L hX h4 h3 (cap_less L.cap fun n k hn' hk => ?_) rfl (rel_abort_any L.lies L.good R hp rfl ⟨rfl, rfl⟩ ⟨Nat.le_refl _, by show s.len ≤ _; omega⟩ rfl R.buck (fun h => by cases h) (fun _ => ⟨h2, rfl, rfl⟩))⟩
    rcases hk with h5 | ⟨h5, u, y, hy, h6⟩
    · exact .inl h5
    · have hy' : (if u = t then none else s.tx u) = some y := hy
      by_cases hu : u = t
      · rw [if_pos hu] at hy'; cases hy'
      · rw [if_neg hu] at hy'
        exact .inr ⟨h5, u, y, hy', h6⟩

/-- Abort of a store that changes its pages at once. -/
theorem abort_steal {w : World} {a : Nat} {P : Sp} {X : Nat → Prop} {q : Nat} (S : Store w a true P X q) (t : Int) (ht : t < 256) (p : TxP) (hp : P.tx t = some p) (hlen : P.len + p.ups.length + 1 ≤ 391) :
    Calls Tryz.prog 25 #[.pointer (some ⟨a, 0, none⟩), .int .i64 t] w fun e w' => e = .returned (.int .i64 0) ∧ Then w w' a true (P.abort t p) X q := by
  obtain ⟨s, L, R, hX⟩ := S
  obtain ⟨x, hx, hlast, hhold⟩ := R.tx1 t p hp
  have hpos := R.pos t p hp
  have hn := R.nums
  obtain ⟨⟨lg, hlg, hch⟩, hwr, hcm⟩ := R.steal rfl
  obtain ⟨hu1, hu2⟩ := R.ups t p hp
  have hall : ∀ u ∈ p.ups, holdOf x.H u.1 = 2 := fun u hu => by
    rw [hhold]
    unfold TxP.hold
    rw [if_pos (hu1 u hu)]
  have hnorm := (hch t p x hp hx).norm hlg.norms
  obtain ⟨f1, f2, f3⟩ := contBack_facts p.ups s.cont (fun n hn => (L.good.rise n hn).1) hnorm
  refine (storeAbort_steal L t ⟨by omega, by omega⟩ x hx (fun s' => Acom s s' t (contBack s.cont p.ups) (p.ups.length + 1) ∧ (∃ lx, Logd s' (lg ++ lx)) ∧ Held s' q) (fun W hW => (stealAbort_step hW L.good L.held L.cap hlg t ⟨by omega, ht⟩ x hx hlast p.ups (hch t p x hp hx) hall (by omega)).mono ?_)).mono ?_
  · rintro e w' ⟨h1, s', lx, h2, h3, h4, h5⟩
    exact ⟨h1, s', ⟨h2, ⟨lx, h3⟩, h5⟩, h4⟩
  · rintro e w' ⟨h1, s', ⟨h2, ⟨lx, h3⟩, hh⟩, hg⟩
    have hund : ∀ key, under (s'.cont (bucket key)) key = undoL p.ups (fun k => under (s.cont (bucket k)) k) key := fun key => by rw [h2.cont]; exact f3 key
    refine ⟨h1, then_of L hX hg hh (cap_less L.cap fun n k hn' hk => ?_) h2.nums.2.2.1 (rel_abort_any L.lies L.good R hp h2.tx ⟨h2.nums.2.1, h2.nums.1⟩ h2.nums.2.2.2.2 h2.nums.2.2.2.1 (fun n hn' p' hp' => ?_) (fun _ => ⟨⟨lg ++ lx, h3, fun u p' y hp' hy => ?_⟩, fun u p' k' c' hu hp' hc' => ?_, fun key hno => ?_⟩) (fun h => by cases h))⟩
    · rcases hk with ⟨p', hp', rfl⟩ | ⟨h5, u, y, hy, h6⟩
      · rw [h2.cont] at hp'
        rcases f2 n hn' p' hp' with h5 | ⟨⟨u, hu, e5⟩, h5⟩
        · exact .inl ⟨p', h5, rfl⟩
        · exact .inr ⟨h5, t, x, hx, by rw [← e5]; exact hall u hu⟩
      · rw [h2.tx] at hy
        by_cases hu : u = t
        · simp only [hu, if_true] at hy; cases hy
        · simp only [hu, if_false] at hy
          exact .inr ⟨h5, u, y, hy, h6⟩
    · rw [h2.cont] at hp'
      rcases f2 n hn' p' hp' with h5 | ⟨_, h5⟩
      · exact R.buck n hn' p' h5
      · exact h5
    · rw [h2.tx] at hy
      simp only [Sp.abort] at hp'
      by_cases hu : u = t
      · rw [if_pos hu] at hp'; cases hp'
      · rw [if_neg hu] at hp'
        simp only [hu, if_false] at hy
        exact (hch u p' y hp' hy).more lx
    · rw [hund, undoL_off]
      · exact hwr u p' k' c' hp' hc'
      · intro v hv e
        have h5 := hu1 v hv
        rw [e] at h5
        exact hu (R.one u t p' p k' hp' hp (by rw [hc']; rfl) h5)
    · rw [hund]
      cases hw : p.wrote key with
      | some c =>
        refine Eq.trans (undoL_congr _ _ (fun k => (p.wrote k).getD (P.comm k)) _ ?_) (hu2 key)
        rw [hwr t p key c hp hw, hw]; rfl
      | none =>
        rw [undoL_off _ _ _ (fun v hv e => by have h5 := hu1 v hv; rw [e, hw] at h5; cases h5)]
        refine hcm key fun u p' hp' => ?_
        by_cases hu : u = t
        · rw [hu, hp] at hp'
          simp only [Option.some.injEq] at hp'
          rw [← hp']; exact hw
        · exact hno u p' hu hp'

theorem abort_ok {w : World} {a : Nat} {k : Bool} {P : Sp} {X : Nat → Prop} {q : Nat} (S : Store w a k P X q) (t : Int) (ht : t < 256) (p : TxP) (hp : P.tx t = some p) (hlen : P.len + p.ups.length + 1 ≤ 391) :
    Calls Tryz.prog 25 #[.pointer (some ⟨a, 0, none⟩), .int .i64 t] w fun e w' => e = .returned (.int .i64 0) ∧ Then w w' a k (P.abort t p) X q := by
  cases k with
  | true => exact abort_steal S t ht p hp hlen
  | false => exact abort_beside S t ht p hp
end Go.Proofs.YtihbngfbcnojcaaGreat

namespace Go.Proofs.YtihbngfbcnojcaaGreat
open Go.RowKit

/-- A transaction reads a key. -/
def TxP.look (p : TxP) (key : ByteArray) : TxP := { p with read := fun k => if k = key then 1 else p.read k }
def Sp.read (P : Sp) (t : Int) (p : TxP) (key : ByteArray) : Sp := { P with tx := fun u => if u = t then some (p.look key) else P.tx u }

theorem rel_read {k : Bool} {s : Sv} {P : Sp} {t : Int} {p : TxP} {q : Nat} (h : Rel k s P) (hh : Held s q) (hp : P.tx t = some p) {x : TxE} (hx : s.tx t = some x) (key : ByteArray) : Rel k (granted s t x key 1) (P.read t p key) := by
  have hsome : ∀ u p', (P.read t p key).tx u = some p' → (u = t ∧ p' = p.look key) ∨ (u ≠ t ∧ P.tx u = some p') := fun u p' hp' => by
    simp only [Sp.read] at hp'
    split at hp'
    · rename_i he
      simp only [Option.some.injEq] at hp'
      exact .inl ⟨he, hp'.symm⟩
    · rename_i he
      exact .inr ⟨he, hp'⟩
  have hold : ∀ u p', (P.read t p key).tx u = some p' → ∃ p0, P.tx u = some p0 ∧ p'.wrote = p0.wrote ∧ p'.ups = p0.ups := fun u p' hp' => by
    rcases hsome u p' hp' with ⟨rfl, rfl⟩ | ⟨_, hp''⟩
    · exact ⟨p, hp, rfl, rfl⟩
    · exact ⟨p', hp'', rfl, rfl⟩
  have back : ∀ u p0, P.tx u = some p0 → ∃ p', (P.read t p key).tx u = some p' ∧ p'.wrote = p0.wrote := fun u p0 hp0 => by
    by_cases hu : u = t
    · refine ⟨p.look key, by simp only [Sp.read]; rw [if_pos hu], ?_⟩
      rw [hu, hp] at hp0
      simp only [Option.some.injEq] at hp0
      rw [← hp0]; rfl
    · exact ⟨p0, by simp only [Sp.read]; rw [if_neg hu]; exact hp0, rfl⟩
  obtain ⟨x0, hx0, hlast, hhold⟩ := h.tx1 t p hp
  rw [hx] at hx0
  simp only [Option.some.injEq] at hx0
  subst hx0
  refine ⟨fun u hu => ?_, fun u p' hp' => ?_, h.nums, fun u hu => ?_, fun u p' hp' => ?_, h.cnt, h.buck, fun u1 u2 p1 p2 k' hp1 hp2 h1 h2 => ?_, ⟨h.nrm.1, fun u p' k' c' hp' hc' => ?_⟩, fun u p' k' hp' => ?_, fun u p' hp' => ?_, fun hk => ?_, fun hk => ?_⟩
  · simp only [Sp.read] at hu
    split at hu
    · cases hu
    · rename_i hne
      show (if u = t then _ else s.tx u) = none
      rw [if_neg hne]; exact h.tx0 u hu
  · rcases hsome u p' hp' with ⟨rfl, rfl⟩ | ⟨hu, hp''⟩
    · refine ⟨{ x with nH := x.nH + 1, H := x.H.put (lit key) (.held (.int .i64 (max (holdOf x.H key) 1))) }, by simp [granted], hlast, fun k' => ?_⟩
      show holdOf (x.H.put (lit key) (.held (.int .i64 (max (holdOf x.H key) 1)))) k' = _
      rw [holdOf_put (hh u x hx).2.2]
      by_cases he : k' = key
      · rw [if_pos he, hhold key]
        unfold TxP.hold TxP.look
        simp only [he, if_true]
        by_cases hw : (p.wrote key).isSome = true
        · rw [if_pos hw, if_pos hw]; rfl
        · rw [if_neg hw, if_neg hw]
          rcases h.rd u p key hp with h3 | h3 <;> rw [h3] <;> rfl
      · rw [if_neg he, hhold k']
        unfold TxP.hold TxP.look
        simp only [he, if_false]
    · obtain ⟨y, h1, h2, h3⟩ := h.tx1 u p' hp''
      exact ⟨y, by show (if u = t then _ else s.tx u) = _; rw [if_neg hu]; exact h1, h2, h3⟩
  · have hu' : (P.next : Int) < u := hu
    simp only [Sp.read]
    rw [if_neg (fun e => by have := h.fut u hu'; rw [e, hp] at this; cases this)]
    exact h.fut u hu'
  · obtain ⟨p0, hp0, _⟩ := hold u p' hp'
    exact h.pos u p0 hp0
  · obtain ⟨q1, a1, a2, _⟩ := hold u1 p1 hp1
    obtain ⟨q2, b1, b2, _⟩ := hold u2 p2 hp2
    exact h.one u1 u2 q1 q2 k' a1 b1 (by rw [← a2]; exact h1) (by rw [← b2]; exact h2)
  · obtain ⟨p0, a1, a2, _⟩ := hold u p' hp'
    exact h.nrm.2 u p0 k' c' a1 (by rw [← a2]; exact hc')
  · rcases hsome u p' hp' with ⟨rfl, rfl⟩ | ⟨hu, hp''⟩
    · unfold TxP.look
      by_cases he : k' = key
      · simp [he]
      · simp only [he, if_false]; exact h.rd u p k' hp
    · exact h.rd u p' k' hp''
  · obtain ⟨p0, a1, a2, a3⟩ := hold u p' hp'
    rw [a2, a3]
    exact h.ups u p0 a1
  · obtain ⟨⟨lg, h1, h1c⟩, h2, h3⟩ := h.steal hk
    refine ⟨⟨lg, h1.same rfl rfl rfl rfl, fun u p' y hp' hy => ?_⟩, fun u p' k' c' hp' hc' => ?_, fun k' hno => ?_⟩
    · obtain ⟨p0, a1, _, a3⟩ := hold u p' hp'
      rw [a3]
      have hy' : (if u = t then some { x with nH := x.nH + 1, H := x.H.put (lit key) (.held (.int .i64 (max (holdOf x.H key) 1))) } else s.tx u) = some y := hy
      by_cases hu : u = t
      · rw [if_pos hu] at hy'
        simp only [Option.some.injEq] at hy'
        subst hy'
        exact h1c u p0 x a1 (by rw [hu]; exact hx)
      · rw [if_neg hu] at hy'
        exact h1c u p0 y a1 hy'
    · obtain ⟨p0, a1, a2, _⟩ := hold u p' hp'
      exact h2 u p0 k' c' a1 (by rw [← a2]; exact hc')
    · refine h3 k' fun u p0 hp0 => ?_
      obtain ⟨p', b1, b2⟩ := back u p0 hp0
      rw [← b2]; exact hno u p' b1
  · obtain ⟨⟨md, h1⟩, h2, h3, h4⟩ := h.beside hk
    refine ⟨⟨md, h1.granted t x key 1⟩, fun u hu => ?_, fun u p' hp' k' => ?_, h4⟩
    · simp only [Sp.read] at hu
      split at hu
      · cases hu
      · exact h2 u hu
    · obtain ⟨p0, a1, a2, _⟩ := hold u p' hp'
      rw [a2]; exact h3 u p0 a1 k'

theorem cap_granted {s : Sv} {q : Nat} (hh : Held s q) (hc : Cap s) {t : Int} {x : TxE} (hx : s.tx t = some x) (key : ByteArray) : Cap (granted s t x key 1) := cap_less hc fun n k hn hk => by
  rcases hk with h1 | ⟨h1, u, y, hy, h2⟩
  · exact .inl h1
  · have hy' : (if u = t then some { x with nH := x.nH + 1, H := x.H.put (lit key) (.held (.int .i64 (max (holdOf x.H key) 1))) } else s.tx u) = some y := hy
    by_cases hu : u = t
    · rw [if_pos hu] at hy'
      simp only [Option.some.injEq] at hy'
      subst hy'
      have h3 : holdOf (x.H.put (lit key) (.held (.int .i64 (max (holdOf x.H key) 1)))) k = 2 := h2
      rw [holdOf_put (hh t x hx).2.2] at h3
      refine .inr ⟨h1, t, x, hx, ?_⟩
      by_cases he : k = key
      · rw [if_pos he] at h3
        rw [he]
        have := (holdOf_at (hh t x hx).2.1 key).2
        omega
      · rw [if_neg he] at h3; exact h3
    · rw [if_neg hu] at hy'
      exact .inr ⟨h1, u, y, hy', h2⟩

/-- Get that is answered. -/
theorem get_ok {w : World} {a : Nat} {k : Bool} {P : Sp} {X : Nat → Prop} {q : Nat} (S : Store w a k P X q) (hq : q ≤ 99999) (t : Int) (ht : t < 256) (p : TxP) (hp : P.tx t = some p) (key : ByteArray) (hks : 1 ≤ key.size ∧ key.size ≤ 8) (hfree : ∀ u p', P.tx u = some p' → u ≠ t → p'.hold key ≠ 2) :
    Calls Tryz.prog 23 #[.pointer (some ⟨a, 0, none⟩), .int .i64 t, .string key] w fun e w' => e = .returned (.tuple #[.agg #[.bool ((p.wrote key).getD (P.comm key)).1, .string ((p.wrote key).getD (P.comm key)).2], .int .i64 0]) ∧ Then w w' a k (P.read t p key) X (q + 1) := by
  obtain ⟨s, L, R, hX⟩ := S
  obtain ⟨x, hx, hlast, hhold⟩ := R.tx1 t p hp
  have hpos := R.pos t p hp
  have hti : IsInt t := ⟨by omega, by omega⟩
  have hfr : Free s t key := ⟨name_ok R hp hks, fun u y hy hu => by
    obtain ⟨p', hp', h3⟩ := rel_open R hy
    rw [h3]; exact hfree u p' hp' hu⟩
  have hfin : ∀ w' s', Paged (granted s t x key 1) s' → Goes w w' s s' → Held s' (q + 1) → Then w w' a k (P.read t p key) X (q + 1) := fun w' s' h1 h2 h3 => then_of L hX h2 h3 (h1.cap (cap_granted L.held L.cap hx key)) (by rw [h1.same.1]; rfl) ((rel_read R L.held hp hx key).paged h1)
  cases k with
  | true =>
    obtain ⟨_, hwr, hcm⟩ := R.steal rfl
    have hv : under (s.cont (bucket key)) key = (p.wrote key).getD (P.comm key) := by
      cases hw : p.wrote key with
      | some c => exact hwr t p key c hp hw
      | none =>
        refine hcm key fun u p' hp' => ?_
        by_cases hu : u = t
        · rw [hu, hp] at hp'
          simp only [Option.some.injEq] at hp'
          rw [← hp']; exact hw
        · have h0 := hfree u p' hp' hu
          cases hq0 : p'.wrote key with
          | none => rfl
          | some c =>
            exfalso
            apply h0
            unfold TxP.hold
            rw [hq0]; rfl
    rw [← hv]
    refine (storeGet_steal L.lies L.good L.held hq t hti x hx key hks.2 hfr a L.haw L.hao L.ca).mono ?_
    rintro e w' ⟨h1, s', h2, h3, h4⟩
    exact ⟨h1, hfin w' s' h2 h3 h4⟩
  | false =>
    obtain ⟨⟨md, hmd⟩, _, b3, b4⟩ := R.beside rfl
    rw [← b3 t p hp key, ← b4 key]
    refine (storeGet_noSteal L.lies L.good L.held hmd hq t hti x hx key hks.2 hfr a L.haw L.hao L.ca).mono ?_
    rintro e w' ⟨h1, s', h2, h3, h4⟩
    exact ⟨h1, hfin w' s' h2 h3 h4⟩

/-- Get that is refused: another holds the key as written. -/
theorem get_locked {w : World} {a : Nat} {k : Bool} {P : Sp} {X : Nat → Prop} {q : Nat} (S : Store w a k P X q) (t : Int) (ht : t < 256) (p : TxP) (hp : P.tx t = some p) (key : ByteArray) (hks : 1 ≤ key.size ∧ key.size ≤ 8) (u : Int) (p' : TxP) (hu : P.tx u = some p') (hne : u ≠ t) (hh : p'.hold key = 2) :
    Calls Tryz.prog 23 #[.pointer (some ⟨a, 0, none⟩), .int .i64 t, .string key] w fun e w' => e = .returned (.tuple #[.agg #[.bool false, .string ByteArray.empty], .int .i64 8]) ∧ Then w w' a k P X q := by
  obtain ⟨s, L, R, hX⟩ := S
  have hpos := R.pos t p hp
  obtain ⟨y, hy, _, h3⟩ := R.tx1 u p' hu
  have hnm := name_ok R hp hks
  have hnf : ¬ Free s t key := fun hf => hf.2 u y hy hne (by rw [h3]; exact hh)
  have he : readErr s t key = 8 := by unfold readErr; rw [if_pos hnm]
  have K := storeGet_barred L.lies L.good L.held t ⟨by omega, by omega⟩ key (by omega) hnf k a L.haw L.ca
  rw [he] at K
  refine K.mono ?_
  rintro e w' ⟨h1, h2⟩
  exact ⟨h1, then_of L hX h2 L.held L.cap rfl R⟩
end Go.Proofs.YtihbngfbcnojcaaGreat

namespace Go.Proofs.YtihbngfbcnojcaaGreat
open Go.RowKit

abbrev Ups := List (ByteArray × (Bool × ByteArray))
def touches (l : Ups) (key : ByteArray) : Prop := ∃ u ∈ l, u.1 = key
theorem undoL_free {l : Ups} {f : ByteArray → Bool × ByteArray} {key : ByteArray} (h : ¬ touches l key) : undoL l f key = f key := undoL_off l f key fun u hu e => h ⟨u, hu, e⟩

/-- Of the open transactions those that are no longer left were taken back. -/
def Part (s : Sv) (U : Int → Ups) (f0 : ByteArray → Bool × ByteArray) (left : Lit → Bool) (f : ByteArray → Bool × ByteArray) : Prop :=
  ∀ key, (∀ t x, s.tx t = some x → left (.int .i64 t) = false → touches (U t) key → f key = undoL (U t) f0 key) ∧ ((∀ t x, s.tx t = some x → left (.int .i64 t) = false → ¬ touches (U t) key) → f key = f0 key)

theorem Part.start (s : Sv) (U : Int → Ups) (f0 : ByteArray → Bool × ByteArray) (left : Lit → Bool) (h : ∀ t x, s.tx t = some x → left (.int .i64 t) = true) : Part s U f0 left f0 := fun key =>
  ⟨(fun t x hx hl => by rw [h t x hx] at hl; cases hl), fun _ => rfl⟩

theorem Part.step {s : Sv} {U : Int → Ups} {f0 f f' : ByteArray → Bool × ByteArray} {left left' : Lit → Bool} (h : Part s U f0 left f) (hdis : ∀ t u x y key, s.tx t = some x → s.tx u = some y → touches (U t) key → touches (U u) key → t = u) (t : Int) (x : TxE) (hx : s.tx t = some x) (hl : left (.int .i64 t) = true) (hl' : ∀ u : Int, left' (.int .i64 u) = false ↔ left (.int .i64 u) = false ∨ u = t) (hf : ∀ key, f' key = undoL (U t) f key) : Part s U f0 left' f' := fun key => by
  refine ⟨fun u y hy hlu htu => ?_, fun hno => ?_⟩
  · rw [hf]
    by_cases hut : u = t
    · subst hut
      refine undoL_congr _ _ _ _ ((h key).2 fun v z hz hlv htv => ?_)
      have := hdis v u z y key hz hy htv htu
      rw [this, hl] at hlv
      cases hlv
    · rw [undoL_free (fun htt => hut (hdis u t y x key hy hx htu htt))]
      exact (h key).1 u y hy (((hl' u).1 hlu).resolve_right hut) htu
  · rw [hf, undoL_free (hno t x hx ((hl' t).2 (.inr rfl)))]
    exact (h key).2 fun u y hy hlu => hno u y hy ((hl' u).2 (.inl hlu))

/-- What is left when all open transactions are taken back is what is committed. -/
theorem Rel.back {s : Sv} {P : Sp} (h : Rel true s P) {left : Lit → Bool} {f : ByteArray → Bool × ByteArray} (U : Int → Ups) (hU : ∀ t p, P.tx t = some p → U t = p.ups) (hf : Part s U (fun k => under (s.cont (bucket k)) k) left f) (hl : ∀ kl, left kl = false) (key : ByteArray) : f key = P.comm key := by
  obtain ⟨_, hwr, hcm⟩ := h.steal rfl
  have hview : ∀ t p c, P.tx t = some p → p.wrote key = some c → under (s.cont (bucket key)) key = (p.wrote key).getD (P.comm key) := fun t p c hp hw => by rw [hwr t p key c hp hw, hw]; rfl
  by_cases hex : ∃ t x, s.tx t = some x ∧ touches (U t) key
  · obtain ⟨t, x, hx, htt⟩ := hex
    obtain ⟨p, hp, _⟩ := rel_open h hx
    rw [(hf key).1 t x hx (hl _) htt, hU t p hp]
    rw [hU t p hp] at htt
    obtain ⟨u, hu, e⟩ := htt
    obtain ⟨h1, h2⟩ := h.ups t p hp
    have hw := h1 u hu
    rw [e] at hw
    obtain ⟨c, hc⟩ := Option.isSome_iff_exists.1 hw
    refine Eq.trans (undoL_congr _ _ (fun k => (p.wrote k).getD (P.comm k)) _ ?_) (h2 key)
    exact hview t p c hp hc
  · rw [(hf key).2 fun t x hx _ htt => hex ⟨t, x, hx, htt⟩]
    by_cases hw : ∃ t p c, P.tx t = some p ∧ p.wrote key = some c
    · obtain ⟨t, p, c, hp, hc⟩ := hw
      obtain ⟨x, hx, _, _⟩ := h.tx1 t p hp
      show under (s.cont (bucket key)) key = _
      rw [hview t p c hp hc]
      exact (undoL_free (f := fun k => (p.wrote k).getD (P.comm k)) (fun htt => hex ⟨t, x, hx, by rw [hU t p hp]; exact htt⟩)).symm.trans ((h.ups t p hp).2 key)
    · refine hcm key fun t p hp => ?_
      cases hq : p.wrote key with
      | none => rfl
      | some c => exact absurd ⟨t, p, c, hp, hq⟩ hw
end Go.Proofs.YtihbngfbcnojcaaGreat
