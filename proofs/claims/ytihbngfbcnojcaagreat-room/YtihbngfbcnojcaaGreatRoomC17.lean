import Derived.Test.YtihbngfbcnojcaaGreatRoomC16
import Derived.Deep.CutRange
namespace Go.Proofs.YtihbngfbcnojcaaGreat
open Go.RowKit

def zeroEnt : EntV := ⟨0, 0, 0, 0, ByteArray.empty, false, ByteArray.empty, false, ByteArray.empty⟩
theorem zeroEnt_seal : sealed 0 0 zeroEnt.body = List.replicate 64 (.int .u8 0) := by kernel_rfl

theorem Logd.readsAt {s : Sv} {lg : List (EntV × Int)} (h : Logd s lg) (g : Good s) (i : Nat) (hi : i < lg.length) : ReadsAs s.D s.ws i s.start lg[i].2 lg[i].1 := by
  obtain ⟨h1, h2, h3, h4, h5, h6⟩ := h.at' i hi
  exact ⟨h1, g.st.1, g.st.2, h2, h3, h4, h5, h6⟩
theorem Logd.readsEnd {s : Sv} {lg : List (EntV × Int)} (h : Logd s lg) (hl : lg.length < 400) : ReadsAs s.D s.ws lg.length 0 0 zeroEnt :=
  ⟨by rw [zeroEnt_seal]; exact h.rest _ (by rw [h.len]; exact Nat.le_refl _) hl, by omega, by omega, by omega, by omega, ⟨by simp [zeroEnt], by simp [zeroEnt], by simp [zeroEnt], by simp [zeroEnt], by simp [zeroEnt], by simp [zeroEnt], by simp [zeroEnt]⟩, fun _ => rfl, fun _ => rfl⟩

set_option maxRecDepth 100000 in
set_option maxHeartbeats 1000000 in
/-- (*journal).entries of a live store. -/
theorem entries_step {w : World} {s : Sv} {lg : List (EntV × Int)} (h : Lies w s) (g : Good s) (hl : Logd s lg) :
    Calls Tryz.prog 290 #[.pointer (some ⟨s.kb, 0, none⟩)] w fun e w' => ∃ v, e = .returned v ∧ w'.ownsRow w.heap.size 152 9 v lg.length (logCells (lg.map (·.1))) ∧ Below w.heap.size w w' := by
  have c0 : w.cell? ⟨s.kb, 0, none⟩ = some (.pointer (some ⟨s.vb, 0, none⟩)) := cell_at (h.comp .kind) (cells_of s (by omega) rfl)
  have v1 : w.cell? ⟨s.vb, 1, none⟩ = some (.int .u32 s.start) := cell_at (h.comp .vol) rfl
  have hlen : lg.length < 400 := by rw [hl.len]; have := g.ln; omega
  have hb : Below w.heap.size w w.drew := (Below.refl _ w).drew
  have hst := hl.st
  have K := entriesOf_any (w := w.drew) s.vb s.db s.D s.ws s.v s.start 0 0 zeroEnt lg (cell_at ((h.below hb).comp .vol) rfl) ((h.below hb).disk g) hlen (fun i hi => hl.readsAt g i hi) (hl.readsEnd hlen) (by omega)
  have HK : Hid (Calls Tryz.prog 103 #[.pointer (some ⟨s.vb, 0, none⟩), .int .u32 s.start] w.drew fun e w' => ∃ v, e = .returned v ∧ w'.ownsRow w.heap.size 152 9 v lg.length (logCells (lg.map (·.1))) ∧ Below w.heap.size w w') := by
    refine K.mono ?_
    rintro e w' ⟨v, h1, h2, h3⟩
    exact ⟨v, h1, h2, hb.trans h3⟩
  have HC : Hid (∀ W, Below w.heap.size w W → W.cell? ⟨s.kb, 0, none⟩ = some (.pointer (some ⟨s.vb, 0, none⟩)) ∧ W.cell? ⟨s.vb, 1, none⟩ = some (.int .u32 s.start)) := fun W hW => ⟨(hW.cell (p := ⟨s.kb, 0, none⟩) (h.lt .kind _ rfl)).trans c0, (hW.cell (p := ⟨s.vb, 1, none⟩) (h.lt .vol _ rfl)).trans v1⟩
  generalize hkb : s.kb = kb at c0 HC ⊢
  generalize hvb : s.vb = vb at c0 v1 HC HK
  generalize hss : s.start = st at v1 HC HK
  clear h g hl K hb
  go_enter Tryz.func290, Tryz.ntmps290
  go_wp2
  go_region_held3 (fun w' => w'.cell? ⟨kb, 0, none⟩ = some (.pointer (some ⟨vb, 0, none⟩)) ∧ w'.cell? ⟨vb, 1, none⟩ = some (.int .u32 st))
    (go_keep)
    (first
      | (go_at_call 103; go_must (
          refine HK.out.mono ?_
          rintro e w1 ⟨v, rfl, h1, h2⟩
          obtain ⟨d0, d1⟩ := HC.out w1 h2
          have HX : Hid (w1.ownsRow w.heap.size 152 9 v lg.length (logCells (lg.map (·.1))) ∧ Below w.heap.size w w1) := ⟨h1, h2⟩
          clear h1 h2)))
  all_goals
    go_wp2
    go_ret
    exact ⟨v, rfl, HX.out⟩

set_option maxRecDepth 100000 in
set_option maxHeartbeats 4000000 in
/-- (*steal).Committed where no transaction is open. -/
theorem stealCommitted_idle {w : World} {s : Sv} {lg : List (EntV × Int)} (h : Lies w s) (g : Good s) (hb : Buck s) (hl : Logd s lg) (hno : Maps.size s.mo.M = 0) :
    Calls Tryz.prog 301 #[.pointer (some ⟨s.kb, 0, none⟩)] w fun e w' => ∃ v B ps s', e = .returned v ∧ w.heap.size ≤ B ∧ NewPairs w' B s' v ps ∧ (∀ key, under ps key = under (s.cont (bucket key)) key) ∧ Paged s s' ∧ Goes w w' s s' := by
  have hbd : Below w.heap.size w w.drew := (Below.refl _ w).drew
  have KC : Hid (Calls Tryz.prog 79 #[.pointer (some ⟨s.kb, 2, none⟩)] w.drew fun e w' => e = .returned (.map (some w.heap.size)) ∧ ∃ n M s', CellsAt w' w.heap.size n M (colTo s 8 0) ∧ Paged s s' ∧ Goes w w' s s') := by
    refine (cells_step (h.below hbd) g).mono ?_
    rintro e w' ⟨h1, n, M, s', h2, h3, h4, _⟩
    exact ⟨h1, n, M, s', h2, h3, (Goes.of_below h g hbd).trans h4⟩
  have KE : Hid (∀ W s', Paged s s' → Goes w W s s' → Calls Tryz.prog 290 #[.pointer (some ⟨s.kb, 0, none⟩)] W fun e w' => ∃ v, e = .returned v ∧ Below W.heap.size W w') := fun W s' hp hg => by
    have := entries_step hg.lies hg.good (hl.paged hp)
    rw [hp.same.1] at this
    refine this.mono ?_
    rintro e w' ⟨v, h1, _, h2⟩
    exact ⟨v, h1, h2⟩
  have HMO : Hid (∀ W s', Paged s s' → Goes w W s s' → W.cell? ⟨s.kb, 5, none⟩ = some (.map (some s.mo.b)) ∧ MapOf W 3 s.mo.b s.mo.n s.mo.M) := fun W s' hp hg => by
    obtain ⟨e1, e2, _⟩ := hp.same
    have a1 : W.cell? ⟨s'.kb, 5, none⟩ = some (.map (some s'.mo.b)) := cell_at (hg.lies.comp .kind) (cells_of s' (j := 5) (by omega) rfl)
    have a2 : MapOf W 3 s'.mo.b s'.mo.n s'.mo.M := hg.lies.comp .mo
    rw [e1, e2] at a1
    rw [e2] at a2
    exact ⟨a1, a2⟩
  have HU : Hid (∀ key, under (colTo s 8 0).reverse key = under (s.cont (bucket key)) key) := colTo_under g hb
  have HN : Hid ((colTo s 8 0).length ≤ 1000) := by
    have h3 : ∀ m, m ≤ 8 → ((List.range m).flatMap s.cont).length ≤ 4 * m := fun m => by
      induction m with
      | zero => intro _; simp
      | succ m ih =>
        intro hm
        rw [List.range_succ, List.flatMap_append, List.length_append]
        have := ih (by omega)
        have := (g.rise m (by omega)).2.1
        have e1 : ([m].flatMap s.cont).length = (s.cont m).length := by simp
        omega
    have := h3 8 (by omega)
    show (colTo s 8 0).length ≤ 1000
    unfold colTo
    simp only [List.length_append, List.take_zero, List.length_nil]
    omega
  have hK := Maps.int_keyed (P := Tryz.prog) Tryz.underlying3
  have hnone : ∀ kl, Maps.has s.mo.M kl = false := fun kl => by
    obtain ⟨es, h1, _⟩ := mo_tidy h
    rw [h1] at hno ⊢
    have : es = [] := List.length_eq_zero_iff.1 hno
    rw [this]; rfl
  have HNO : Hid (∀ kl, Maps.has s.mo.M kl = false) := hnone
  generalize hkb : s.kb = kb at KC KE HMO ⊢
  clear h g hb hl hbd hno hnone
  go_enter Tryz.func301, Tryz.ntmps301
  go_wp2
  go_region_held3 (fun w' => True)
    (exact trivial)
    (first
      | (go_at_call 79; go_must (
          refine KC.out.mono ?_
          rintro e w1 ⟨rfl, n, M, s', h1, h2, h3⟩
          have HX : Hid (CellsAt w1 w.heap.size n M (colTo s 8 0) ∧ Paged s s' ∧ Goes w w1 s s') := ⟨h1, h2, h3⟩
          clear h1 h2 h3))
      | (go_at_call 290; go_must (
          refine (KE.out w1 s' HX.out.2.1 HX.out.2.2).mono ?_
          rintro e w2 ⟨v2, rfl, hb2⟩
          have HY : Hid (CellsAt w2 w.heap.size n M (colTo s 8 0) ∧ Paged s s' ∧ Goes w w2 s s') := ⟨⟨HX.out.1.map.below hb2, HX.out.1.ok, HX.out.1.num, HX.out.1.says⟩, HX.out.2.1, HX.out.2.2.on_below hb2⟩
          obtain ⟨c5, hmo2⟩ := HMO.out w2 s' HX.out.2.1 (HX.out.2.2.on_below hb2)
          have HM2 : Hid (MapOf w2 3 s.mo.b s.mo.n s.mo.M) := hmo2
          clear hb2 hmo2)))
  all_goals
    go_wp2_with (first
      | (at_range; refine wpList_range_own _ rfl _ 227 rfl 3 356 hK Tryz.underlying227 asIs s.mo.b s.mo.n s.mo.M rfl HM2.out ?_; intro w0 hrg0 hg0 hs0))
    go_frame
    have hb0 : Below w2.heap.size w2 w0 := ⟨hg0.os, hg0.tape, hg0.output, by omega, fun q hq => hg0.block q hq (by simp)⟩
    have HB0 : Hid (Below w2.heap.size w2 w0) := hb0
    have HR0 := @id (Hid (World.ranges w0 _ _ _ _ _ _ _ _ _)) hrg0
    clear hg0 hs0 hb0 hrg0
    go_loopw [24] (fun _ wr => wr = w0) (fun _ _ => 0)
    case atStart => rfl
    case round =>
      obtain rfl := hrel
      go_wp2_with (first
        | (at_next; refine wpList_next_ranges _ rfl _ rfl 3 hK asIs (Value.int .i64) (fun v : Value => v) (fun key kl hkey => by obtain ⟨x, rfl, _⟩ := Maps.keyOf_int_inv Tryz.underlying3 hkey; exact ⟨x, rfl⟩) (fun v y hv => ⟨v, rfl⟩) s.mo.b w2.heap.size s.mo.n s.mo.M _ _ rfl HR0.out ?_ ?_))
      · intro _ _
        go_wp2_with (first
          | (go_at_call 78; go_must (
              refine (sorted_any (HY.out.1.map.below HB0.out) HY.out.1.ok (by have := HY.out.1.num; have := HN.out; omega)).mono ?_
              rintro e w3 ⟨v, ks, rfl, k1, k2, k3⟩
              have HZ : Hid (KeysOf M ks ∧ w3.ownsRow wr.heap.size 43 2 v (pairsOf M ks).length (pairCells (pairsOf M ks)) ∧ Below wr.heap.size wr w3) := ⟨k1, k2, k3⟩
              clear k1 k2 k3)))
        go_ret
        obtain ⟨k1, k2, k3⟩ := HZ.out
        obtain ⟨h1, h2, h3⟩ := HY.out
        have h4 := h3.on_below HB0.out
        refine ⟨v, wr.heap.size, pairsOf M ks, s', rfl, h4.below.size, ⟨k2, fun tag k hk => h4.lies.lt tag k hk, rising_pw.2 (pairsOf_rising k1.rise)⟩, fun key => ?_, h2, h4.on_below k3⟩
        rw [pairsOf_under k1, h1.says, HU.out]
        rcases under_cases (s.cont (bucket key)) key with ⟨p, _, _, e⟩ | ⟨_, e⟩ <;> rw [e] <;> rfl
      · intro x c kl yd yp w1' cnt1 hkey hlx hv hat hrg1 hlt hg1 hs1 hen
        rw [HNO.out] at hlx
        cases hlx
end Go.Proofs.YtihbngfbcnojcaaGreat

namespace Go.Proofs.YtihbngfbcnojcaaGreat
open Go.RowKit

theorem rel_open {k : Bool} {s : Sv} {P : Sp} (h : Rel k s P) {u : Int} {y : TxE} (hy : s.tx u = some y) : ∃ p, P.tx u = some p ∧ ∀ key, holdOf y.H key = p.hold key := by
  cases hp : P.tx u with
  | none => rw [h.tx0 u hp] at hy; cases hy
  | some p =>
    obtain ⟨y', hy', _, h3⟩ := h.tx1 u p hp
    rw [hy] at hy'
    simp only [Option.some.injEq] at hy'
    subst hy'
    exact ⟨p, rfl, h3⟩

theorem name_ok {k : Bool} {s : Sv} {P : Sp} (h : Rel k s P) {t : Int} {p : TxP} (hp : P.tx t = some p) {key : ByteArray} (hk : 1 ≤ key.size ∧ key.size ≤ 8) : nameErr (s.tx t).isSome key = 0 := by
  obtain ⟨x, hx, _, _⟩ := h.tx1 t p hp
  unfold nameErr
  rw [hx, if_neg (by simp), if_neg (by omega)]

/-- A write that is refused: no room. -/
theorem write_full {w : World} {a : Nat} {k : Bool} {P : Sp} {X : Nat → Prop} {q : Nat} (S : Store w a k P X q) (hq : q ≤ 100000) (t : Int) (ht : IsInt t) (p : TxP) (hp : P.tx t = some p) (key : ByteArray) (hks : 1 ≤ key.size ∧ key.size ≤ 8) (c : Bool × ByteArray) (hv : c.2.size ≤ 12) (hfree : ∀ u p', P.tx u = some p' → u ≠ t → p'.hold key = 0) (hr : ¬ HasRoom P key) :
    Calls Tryz.prog 42 #[.pointer (some ⟨a, 0, none⟩), .int .i64 t, .string key, .agg #[.bool c.1, .string c.2]] w fun e w' => ∃ r, e = .returned (.int .i64 r) ∧ r = 10 ∧ Then w w' a k P X q := by
  obtain ⟨s, L, R, hX⟩ := S
  refine (storeWrite_no k L hq t ht key (by omega) c.1 c.2 (by omega) 10 (.inr (.inr (.inr ⟨name_ok R hp hks, hv, fun u y hy hu => ?_, .inr (fun h => hr ((R.room key).1 h)), rfl⟩)))).mono ?_
  · obtain ⟨p', hp', h3⟩ := rel_open R hy
    rw [h3, hfree u p' hp' hu]; exact Int.le_refl _
  · rintro e w' ⟨s', h1, h2, h3⟩
    exact ⟨10, h1, rfl, then_of L hX h3 (h2.held L.held) (h2.cap L.cap) h2.same.1 (R.paged h2)⟩

/-- A write that is refused: another holds the key. -/
theorem write_locked {w : World} {a : Nat} {k : Bool} {P : Sp} {X : Nat → Prop} {q : Nat} (S : Store w a k P X q) (hq : q ≤ 100000) (t : Int) (ht : IsInt t) (p : TxP) (hp : P.tx t = some p) (key : ByteArray) (hks : 1 ≤ key.size ∧ key.size ≤ 8) (c : Bool × ByteArray) (hv : c.2.size ≤ 12) (u : Int) (p' : TxP) (hu : P.tx u = some p') (hne : u ≠ t) (hh : 1 ≤ p'.hold key) :
    Calls Tryz.prog 42 #[.pointer (some ⟨a, 0, none⟩), .int .i64 t, .string key, .agg #[.bool c.1, .string c.2]] w fun e w' => ∃ r, e = .returned (.int .i64 r) ∧ r = 8 ∧ Then w w' a k P X q := by
  obtain ⟨s, L, R, hX⟩ := S
  obtain ⟨y, hy, _, h3⟩ := R.tx1 u p' hu
  refine (storeWrite_no k L hq t ht key (by omega) c.1 c.2 (by omega) 8 (.inr (.inr (.inl ⟨name_ok R hp hks, hv, ⟨u, y, hy, hne, by rw [h3]; exact hh⟩, rfl⟩)))).mono ?_
  rintro e w' ⟨s', h1, h2, h4⟩
  exact ⟨8, h1, rfl, then_of L hX h4 (h2.held L.held) (h2.cap L.cap) h2.same.1 (R.paged h2)⟩

/-- A write, of either kind. -/
theorem write_ok {w : World} {a : Nat} {k : Bool} {P : Sp} {X : Nat → Prop} {q : Nat} (S : Store w a k P X q) (hq : q ≤ 99999) (hlen : P.len ≤ 390) (t : Int) (ht : t < 256) (p : TxP) (key : ByteArray) (c : Bool × ByteArray) (m : MayPut P t p key c) :
    Calls Tryz.prog 42 #[.pointer (some ⟨a, 0, none⟩), .int .i64 t, .string key, .agg #[.bool c.1, .string c.2]] w fun e w' => ∃ r, e = .returned (.int .i64 r) ∧ r = 0 ∧ Then w w' a k (P.write t p key c) X (q + 1) := by
  cases k with
  | true => exact write_steal S hq hlen t ht p key c m
  | false => exact write_beside S hq t ht p key c m

/-- A transaction is over, and what it made of keys is committed. -/
def Sp.commit (P : Sp) (t : Int) (p : TxP) : Sp := { P with comm := fun key => (p.wrote key).getD (P.comm key), tx := fun u => if u = t then none else P.tx u, nopen := P.nopen - 1, len := P.len + 122 }

theorem synced_read2 (s : Sv) (hz : s.D.size = 27779) (hok : WsOk s.ws) (a : Nat) (ha : a < 434) : readW (synced s).D (synced s).ws a = readW s.D s.ws a := by
  obtain ⟨h1, _, _⟩ := apply_of s.D s.ws hz hok
  rw [← h1 a ha]
  show (((applyW s.D s.ws).setIfInBounds 27776 (.slice none 0 0)).extract (a * 64) (a * 64 + 64)).toList = _
  congr 1
  apply Array.ext_getElem?
  intro i
  simp only [Array.getElem?_extract, Array.size_setIfInBounds]
  split
  · exact Array.getElem?_setIfInBounds_ne (by omega)
  · rfl

/-- What both kinds have in common at a commit. -/
theorem rel_commit_any {w : World} {k : Bool} {s s' : Sv} {P : Sp} {t : Int} {p : TxP} (L : Lies w s) (g : Good s) (h : Rel k s P) (hp : P.tx t = some p) (htx : s'.tx = fun u => if u = t then none else s.tx u) (hnum : s'.begun = s.begun ∧ s'.acts = s.acts) (hlen : s.len ≤ s'.len ∧ s'.len ≤ s.len + 122) (hmo : s'.mo.M = s.mo.M.del (.int .i64 t)) (hbk : Buck s')
    (hst : k = true → (∃ lg, Logd s' lg) ∧ s'.cont = s.cont) (hbs : k = false → (∃ md, Made s' md) ∧ (s'.mt = fun u => if u = t then none else s.mt u) ∧ ∀ key, under (s'.cont (bucket key)) key = (p.wrote key).getD (P.comm key)) : Rel k s' (P.commit t p) := by
  have hsome : ∀ u p', (P.commit t p).tx u = some p' → u ≠ t ∧ P.tx u = some p' := fun u p' hp' => by
    simp only [Sp.commit] at hp'
    split at hp'
    · cases hp'
    · rename_i he
      exact ⟨he, hp'⟩
  obtain ⟨x, hx, _, _⟩ := h.tx1 t p hp
  refine ⟨fun u hu => ?_, fun u p' hp' => ?_, ⟨by rw [hnum.1]; exact h.nums.1, by rw [hnum.2]; exact h.nums.2.1, by have := h.nums.2.2; show s'.len ≤ P.len + 122; omega⟩, fun u hu => ?_, fun u p' hp' => h.pos u p' (hsome u p' hp').2, ?_, hbk, fun u1 u2 p1 p2 k' hp1 hp2 h1 h2 => h.one u1 u2 p1 p2 k' (hsome _ _ hp1).2 (hsome _ _ hp2).2 h1 h2, ⟨fun key => ?_, fun u p' k' c' hp' hc' => h.nrm.2 u p' k' c' (hsome _ _ hp').2 hc'⟩, fun u p' k' hp' => h.rd u p' k' (hsome _ _ hp').2, fun hk => ?_, fun hk => ?_⟩
  · rw [htx]
    show (if u = t then none else s.tx u) = none
    by_cases hut : u = t
    · rw [if_pos hut]
    · rw [if_neg hut]
      simp only [Sp.commit] at hu
      rw [if_neg hut] at hu
      exact h.tx0 u hu
  · obtain ⟨hu, hp''⟩ := hsome u p' hp'
    obtain ⟨y, h1, h2, h3⟩ := h.tx1 u p' hp''
    exact ⟨y, by rw [htx]; show (if u = t then none else s.tx u) = _; rw [if_neg hu]; exact h1, by omega, h3⟩
  · have hu' : (P.next : Int) < u := hu
    simp only [Sp.commit]
    split
    · rfl
    · exact h.fut u hu'
  · show Maps.size s'.mo.M = P.nopen - 1
    have h1 := Maps.size_del (k := .int .i64 t) (mo_tidy L)
    rw [open_has g, hx, h.cnt] at h1
    simp only [Option.isSome_some, if_true] at h1
    rw [hmo]; omega
  · show norm ((p.wrote key).getD (P.comm key)) = (p.wrote key).getD (P.comm key)
    cases hw : p.wrote key with
    | none => exact h.nrm.1 key
    | some c => exact h.nrm.2 t p key c hp hw
  · obtain ⟨h1, h2⟩ := hst hk
    obtain ⟨_, h3, h4⟩ := h.steal hk
    refine ⟨h1, fun u p' k' c' hp' hc' => ?_, fun key hno => ?_⟩
    · rw [h2]; exact h3 u p' k' c' (hsome _ _ hp').2 hc'
    · rw [h2]
      show _ = (p.wrote key).getD (P.comm key)
      cases hw : p.wrote key with
      | some c => exact h3 t p key c hp hw
      | none =>
        refine h4 key fun u p' hp' => ?_
        by_cases hu : u = t
        · rw [hu, hp] at hp'
          simp only [Option.some.injEq] at hp'
          rw [← hp']; exact hw
        · exact hno u p' (by simp only [Sp.commit]; rw [if_neg hu]; exact hp')
  · obtain ⟨h1, h2, h3⟩ := hbs hk
    obtain ⟨_, b2, b3, _⟩ := h.beside hk
    refine ⟨h1, fun u hu => ?_, fun u p' hp' key => ?_, h3⟩
    · rw [h2]
      show (if u = t then none else s.mt u) = none
      by_cases hut : u = t
      · rw [if_pos hut]
      · rw [if_neg hut]
        simp only [Sp.commit] at hu
        rw [if_neg hut] at hu
        exact b2 u hu
    · obtain ⟨hu, hp''⟩ := hsome u p' hp'
      show (s'.mt u).bind _ = _
      rw [h2]
      show (if u = t then none else s.mt u).bind _ = _
      rw [if_neg hu]; exact b3 u p' hp'' key

theorem wsok_snoc {s : Sv} (g : Good s) (hl : s.len ≤ 390) (a b : Int) (e : EntV) (he : e.Fits) : WsOk (s.ws ++ [(34 + s.len, sealed a b e.body)]) := fun p hp => by
  have hbody : e.body.length ≤ 48 := by rw [EntV.body_length _ he]; omega
  rcases List.mem_append.1 hp with h1 | h1
  · exact g.ok p h1
  · simp at h1
    subst h1
    exact ⟨by show 34 + s.len < 434; omega, sealed_length _ _ _ hbody, sealed_one _ _ _ (EntV.body_one _)⟩

theorem cap_less {s s' : Sv} (hc : Cap s) (h : ∀ n k, n < 8 → keptKey s' n k → keptKey s n k) : Cap s' := fun n hn => by
  obtain ⟨l, l1, l2⟩ := hc n hn
  exact ⟨l, l1, fun k hk => l2 k (h n k hn hk)⟩

/-- Commit of a store that changes its pages at once. -/
theorem commit_steal {w : World} {a : Nat} {P : Sp} {X : Nat → Prop} {q : Nat} (S : Store w a true P X q) (hlen : P.len ≤ 390) (t : Int) (ht : t < 256) (p : TxP) (hp : P.tx t = some p) :
    Calls Tryz.prog 21 #[.pointer (some ⟨a, 0, none⟩), .int .i64 t] w fun e w' => e = .returned (.int .i64 0) ∧ Then w w' a true (P.commit t p) X q := by
  obtain ⟨s, L, R, hX⟩ := S
  obtain ⟨x, hx, hlast, hhold⟩ := R.tx1 t p hp
  have hpos := R.pos t p hp
  have hn := R.nums
  have hl : s.len ≤ 390 := by omega
  refine (storeCommit_steal L t ⟨by omega, by omega⟩ x hx (fun s' => Committed1 s s' t x ∧ Held s' q) (fun W hW => (stealCommit_step hW L.good L.held hl t ⟨by omega, ht⟩ x hx hlast).mono ?_)).mono ?_
  · rintro e w' ⟨h1, s', h2, h3, h4⟩
    exact ⟨h1, s', ⟨h2, h4⟩, h3⟩
  · rintro e w' ⟨h1, s', ⟨h2, hh⟩, hg⟩
    have hfacts : s'.cont = s.cont ∧ s'.kb = s.kb ∧ (s'.tx = fun u => if u = t then none else s.tx u) ∧ s'.begun = s.begun ∧ s'.acts = s.acts ∧ (s.len ≤ s'.len ∧ s'.len ≤ s.len + 122) ∧ s'.mo.M = s.mo.M.del (.int .i64 t) ∧ ∃ lg, Logd s' lg := by
      obtain ⟨⟨lg, hlg⟩, _, _⟩ := R.steal rfl
      rcases h2 with ⟨_, rfl⟩ | ⟨_, v', rfl⟩
      · exact ⟨rfl, rfl, rfl, rfl, rfl, ⟨Nat.le_refl _, by show s.len ≤ _; omega⟩, rfl, lg, hlg.same rfl rfl rfl rfl⟩
      · have hfit : EntV.Fits { (⟨3, 0, 0, 0, ByteArray.empty, false, ByteArray.empty, false, ByteArray.empty⟩ : EntV) with tx := t, prev := (x.last : Int) } := ⟨by simp, ⟨by simp only; omega, ht⟩, ⟨by simp only; omega, by simp only; omega⟩, by simp, by simp, by simp, by simp⟩
        have hct := L.good.ct
        have hac := L.good.ac
        have hE : Logd (entered s t x ⟨3, 0, 0, 0, ByteArray.empty, false, ByteArray.empty, false, ByteArray.empty⟩ v') (lg ++ [(_, s.count + 1)]) := hlg.snoc (by omega) _ (s.count + 1) v' rfl rfl rfl rfl (by omega) hfit (fun _ => rfl) (fun _ => rfl)
        refine ⟨rfl, rfl, ?_, rfl, rfl, ⟨by show s.len ≤ s.len + 1; omega, by show s.len + 1 ≤ s.len + 122; omega⟩, rfl, _, ⟨hE.len, fun i hi => ?_, fun i hi hi4 => ?_, hE.st⟩⟩
        · funext u
          show (if u = t then none else (if u = t then some _ else s.tx u)) = _
          by_cases hu : u = t
          · rw [if_pos hu, if_pos hu]
          · rw [if_neg hu, if_neg hu, if_neg hu]
        · have e1 := synced_read2 (entered s t x ⟨3, 0, 0, 0, ByteArray.empty, false, ByteArray.empty, false, ByteArray.empty⟩ v') (by show (s.D.setIfInBounds 27776 v').size = _; rw [Array.size_setIfInBounds]; exact L.good.dsz) (wsok_snoc L.good hl _ _ _ hfit) (34 + i) (by have := hE.len; have : (entered s t x ⟨3, 0, 0, 0, ByteArray.empty, false, ByteArray.empty, false, ByteArray.empty⟩ v').len = s.len + 1 := rfl; omega)
          have e2 := hE.at' i hi
          rw [← e1] at e2
          exact e2
        · have e1 := synced_read2 (entered s t x ⟨3, 0, 0, 0, ByteArray.empty, false, ByteArray.empty, false, ByteArray.empty⟩ v') (by show (s.D.setIfInBounds 27776 v').size = _; rw [Array.size_setIfInBounds]; exact L.good.dsz) (wsok_snoc L.good hl _ _ _ hfit) (34 + i) (by omega)
          have e2 := hE.rest i hi hi4
          rw [← e1] at e2
          exact e2
    obtain ⟨f1, f2, f3, f4, f5, f6, f7, f8⟩ := hfacts
    refine ⟨h1, then_of L hX hg hh (cap_less L.cap fun n k hn' hk => ?_) f2 (rel_commit_any L.lies L.good R hp f3 ⟨f4, f5⟩ f6 f7 (by unfold Buck; rw [f1]; exact R.buck) (fun _ => ⟨f8, f1⟩) (fun h => by cases h))⟩
    rcases hk with h3 | ⟨h3, u, y, hy, h4⟩
    · rw [f1] at h3; exact .inl h3
    · rw [f3] at hy
      by_cases hu : u = t
      · simp only [hu, if_true] at hy; cases hy
      · simp only [hu, if_false] at hy
        exact .inr ⟨h3, u, y, hy, h4⟩
end Go.Proofs.YtihbngfbcnojcaaGreat

namespace Go.Proofs.YtihbngfbcnojcaaGreat
open Go.RowKit

theorem has_wrote {M : DataW Value} (h : CellsOk M) (key : ByteArray) : Maps.has M (lit key) = (wroteIn M key).isSome ∧ ∀ c, wroteIn M key = some c → cellOf M key = c := by
  refine ⟨?_, fun c hc => by unfold cellOf; rw [hc]; rfl⟩
  rcases h key with h1 | ⟨is, val, _, _, h1⟩
  · rw [Maps.has_false_of_atKey h1]
    unfold wroteIn; rw [h1]; rfl
  · rw [Maps.has_true_of_atKey h1]
    unfold wroteIn; rw [h1]; rfl

/-- Commit of a store that keeps writes beside the pages. -/
theorem commit_beside {w : World} {a : Nat} {P : Sp} {X : Nat → Prop} {q : Nat} (S : Store w a false P X q) (hlen : P.len ≤ 270) (t : Int) (ht : t < 256) (p : TxP) (hp : P.tx t = some p) :
    Calls Tryz.prog 21 #[.pointer (some ⟨a, 0, none⟩), .int .i64 t] w fun e w' => e = .returned (.int .i64 0) ∧ Then w w' a false (P.commit t p) X q := by
  obtain ⟨s, L, R, hX⟩ := S
  obtain ⟨x, hx, hlast, hhold⟩ := R.tx1 t p hp
  have hpos := R.pos t p hp
  have hn := R.nums
  have hac := L.good.ac
  obtain ⟨⟨md, hmd⟩, b2, b3, b4⟩ := R.beside rfl
  have hti : IsInt t := ⟨by omega, by omega⟩
  cases hmt : s.mt t with
  | none =>
    refine (storeCommit_noSteal L t hti x hx (fun s' => Ncom s s' t s.cont 0 ∧ (∃ md', Made s' md') ∧ Held s' q) (fun W hW => (noStealCommit_none hW L.good L.held hmd t hti hmt).mono ?_)).mono ?_
    · rintro e w' ⟨h1, s', md', h2, h3, h4, h5⟩
      exact ⟨h1, s', ⟨h2, ⟨md', h3⟩, h5⟩, h4⟩
    · rintro e w' ⟨h1, s', ⟨h2, h3, hh⟩, hg⟩
      have hno : ∀ key, p.wrote key = none := fun key => by rw [← b3 t p hp key]; simp [Sv.own, hmt]
      refine ⟨h1, then_of L hX hg hh (cap_less L.cap fun n k hn' hk => ?_) h2.nums.2.2.1 ?_⟩
      · rcases hk with h4 | ⟨h4, u, y, hy, h5⟩
        · rw [h2.cont] at h4; exact .inl h4
        · rw [h2.tx] at hy
          by_cases hu : u = t
          · simp only [hu, if_true] at hy; cases hy
          · simp only [hu, if_false] at hy
            exact .inr ⟨h4, u, y, hy, h5⟩
      · refine rel_commit_any L.lies L.good R hp h2.tx ⟨h2.nums.2.1, h2.nums.1⟩ ?_ h2.nums.2.2.2.2.1 (by unfold Buck; rw [h2.cont]; exact R.buck) (fun h => by cases h) (fun _ => ⟨h3, h2.mt, fun key => ?_⟩)
        · exact ⟨h2.grew, by have := h2.nums.2.2.2.2.2; omega⟩
        · rw [h2.cont, b4, hno]; rfl
  | some m =>
    obtain ⟨hcok, hmn⟩ := hmd.cells t m hmt
    have hown : ∀ key, wroteIn m.M key = p.wrote key := fun key => by rw [← b3 t p hp key]; simp [Sv.own, hmt]
    have hall : ∀ k, Maps.has m.M (lit k) = true → holdOf x.H k = 2 := fun k hk => by
      rw [(has_wrote hcok k).1, hown] at hk
      rw [hhold]
      unfold TxP.hold
      rw [if_pos hk]
    refine (storeCommit_noSteal L t hti x hx (fun s' => ∃ ks, KeysOf m.M ks ∧ Ncom s s' t (contAfter s.cont m.M ks) (ks.length + 1) ∧ (∃ md', Made s' md') ∧ Held s' q) (fun W hW => (noStealCommit_some hW L.good L.held L.cap hmd t ⟨by omega, ht⟩ x hx hlast hmt hall (by omega)).mono ?_)).mono ?_
    · rintro e w' ⟨h1, ks, s', md', h0, h2, h3, h4, h5⟩
      exact ⟨h1, s', ⟨ks, h0, h2, ⟨md', h3⟩, h5⟩, h4⟩
    · rintro e w' ⟨h1, s', ⟨ks, h0, h2, h3, hh⟩, hg⟩
      obtain ⟨f1, f2, f3⟩ := contAfter_facts (c := s.cont) m.M (fun n hn => (L.good.rise n hn).1) ks
      have hkl : ks.length ≤ 120 := by
        have hM : MapOf w 9 m.b m.n m.M := L.lies.comp (.madeOf t) m hmt
        have := World.ownsMap.size_le hM
        rw [h0.len]; omega
      refine ⟨h1, then_of L hX hg hh (cap_less L.cap fun n k hn' hk => ?_) h2.nums.2.2.1 ?_⟩
      · rcases hk with ⟨p', hp', rfl⟩ | ⟨h4, u, y, hy, h5⟩
        · rw [h2.cont] at hp'
          rcases f2 n hn' p' hp' with h4 | ⟨h4, h5⟩
          · exact .inl ⟨p', h4, rfl⟩
          · exact .inr ⟨h5, t, x, hx, hall _ ((h0.mem _).1 h4)⟩
        · rw [h2.tx] at hy
          by_cases hu : u = t
          · simp only [hu, if_true] at hy; cases hy
          · simp only [hu, if_false] at hy
            exact .inr ⟨h4, u, y, hy, h5⟩
      · refine rel_commit_any L.lies L.good R hp h2.tx ⟨h2.nums.2.1, h2.nums.1⟩ ⟨h2.grew, by have := h2.nums.2.2.2.2.2; omega⟩ h2.nums.2.2.2.2.1 (fun n hn' p' hp' => ?_) (fun h => by cases h) (fun _ => ⟨h3, h2.mt, fun key => ?_⟩)
        · rw [h2.cont] at hp'
          rcases f2 n hn' p' hp' with h4 | ⟨_, h4⟩
          · exact R.buck n hn' p' h4
          · exact h4
        · rw [h2.cont]
          obtain ⟨g1, g2⟩ := has_wrote hcok key
          cases hw : p.wrote key with
          | none =>
            have hni : key ∉ ks := fun hk => by
              have := (h0.mem key).1 hk
              rw [g1, hown, hw] at this
              cases this
            rw [(f3 key).2 hni, b4]; rfl
          | some c =>
            have hin : key ∈ ks := (h0.mem key).2 (by rw [g1, hown, hw]; rfl)
            rw [(f3 key).1 hin, g2 c (by rw [hown, hw])]
            exact R.nrm.2 t p key c hp hw

theorem commit_ok {w : World} {a : Nat} {k : Bool} {P : Sp} {X : Nat → Prop} {q : Nat} (S : Store w a k P X q) (hlen : P.len ≤ 270) (t : Int) (ht : t < 256) (p : TxP) (hp : P.tx t = some p) :
    Calls Tryz.prog 21 #[.pointer (some ⟨a, 0, none⟩), .int .i64 t] w fun e w' => e = .returned (.int .i64 0) ∧ Then w w' a k (P.commit t p) X q := by
  cases k with
  | true => exact commit_steal S (by omega) t ht p hp
  | false => exact commit_beside S hlen t ht p hp

/-- What Dump answers. -/
def Dumped (w w' : World) (a : Nat) (k : Bool) (P : Sp) (X : Nat → Prop) (q : Nat) (v : Value) : Prop := ∃ B ps, w'.ownsRow B 43 2 v ps.length (pairCells ps) ∧ w.heap.size ≤ B ∧ RisingAt ps ∧ (∀ key, under ps key = P.comm key) ∧ Then w w' a k P X q

/-- Dump where nothing is open. -/
theorem dump_idle {w : World} {a : Nat} {k : Bool} {P : Sp} {X : Nat → Prop} {q : Nat} (S : Store w a k P X q) (h0 : P.nopen = 0) :
    Calls Tryz.prog 35 #[.pointer (some ⟨a, 0, none⟩)] w fun e w' => ∃ v, e = .returned (.tuple #[v, .int .i64 0]) ∧ Dumped w w' a k P X q v := by
  obtain ⟨s, L, R, hX⟩ := S
  cases k with
  | true =>
    obtain ⟨⟨lg, hlg⟩, h3, h4⟩ := R.steal rfl
    have hsz : Maps.size s.mo.M = 0 := by rw [R.cnt, h0]
    have hno : ∀ t p, P.tx t ≠ some p := fun t p hp => by
      obtain ⟨x, hx, _, _⟩ := R.tx1 t p hp
      have h1 := open_has L.good t
      rw [hx] at h1
      obtain ⟨es, h2, _⟩ := mo_tidy L.lies
      rw [h2] at hsz h1
      have : es = [] := List.length_eq_zero_iff.1 hsz
      rw [this] at h1
      cases h1
    refine dump_steal a s.kb _ L.ca ((stealCommitted_idle L.lies L.good R.buck hlg hsz).mono ?_)
    rintro e w' ⟨v, B, ps, s', h5, h6, h7, h8, h9, h10⟩
    exact ⟨v, h5, B, ps, h7.row, h6, h7.rise, fun key => by rw [h8]; exact h4 key fun t p hp => absurd hp (hno t p), then_of L hX h10 (h9.held L.held) (h9.cap L.cap) h9.same.1 (R.paged h9)⟩
  | false =>
    obtain ⟨_, _, _, b4⟩ := R.beside rfl
    refine dump_noSteal a s.kb _ L.ca ((noStealCommitted_step L.lies L.good R.buck).mono ?_)
    rintro e w' ⟨v, B, ps, s', h5, h6, h7, h8, h9, h10⟩
    exact ⟨v, h5, B, ps, h7.row, h6, h7.rise, fun key => by rw [h8]; exact b4 key, then_of L hX h10 (h9.held L.held) (h9.cap L.cap) h9.same.1 (R.paged h9)⟩
end Go.Proofs.YtihbngfbcnojcaaGreat

namespace Go.Proofs.YtihbngfbcnojcaaGreat
open Go.RowKit

/-- Room's keys. -/
def rk (c : Int) (i : Nat) : ByteArray := ⟨#[UInt8.ofNat c.toNat, UInt8.ofNat (8 * i)]⟩
theorem rk_size (c : Int) (i : Nat) : (rk c i).size = 2 := rfl
theorem rk_inj {c : Int} {i j : Nat} (hi : i < 5) (hj : j < 5) (h : rk c i = rk c j) : i = j := by
  unfold rk at h
  simp only [ByteArray.mk.injEq, Array.mk.injEq, List.cons.injEq, and_true, true_and] at h
  have : (UInt8.ofNat (8 * i)).toNat = (UInt8.ofNat (8 * j)).toNat := by rw [h]
  rw [UInt8.toNat_ofNat', UInt8.toNat_ofNat'] at this
  omega
theorem rk_sum (c : Int) (i : Nat) : byteSum (rk c i) 2 = (UInt8.ofNat c.toNat).toNat + (UInt8.ofNat (8 * i)).toNat := by
  simp [byteSum, rk]
theorem rk_bucket (c : Int) (i : Nat) : bucket (rk c i) = bucket (rk c 0) := by
  unfold bucket
  rw [rk_size, rk_size, rk_sum, rk_sum, UInt8.toNat_ofNat' (n := 8 * i), UInt8.toNat_ofNat' (n := 8 * 0)]
  omega

def vcell (v : ByteArray) : Bool × ByteArray := (true, v)
def nocell : Bool × ByteArray := (false, ByteArray.empty)

/-- The keys of these numbers. -/
def ksOf (c : Int) (l : List Nat) : List ByteArray := l.map (rk c)
theorem ksOf_mem {c : Int} {l : List Nat} (hl : ∀ i ∈ l, i < 5) {i : Nat} (hi : i < 5) : rk c i ∈ ksOf c l ↔ i ∈ l := by
  unfold ksOf
  rw [List.mem_map]
  exact ⟨fun ⟨j, hj, e⟩ => by rw [← rk_inj (hl j hj) hi e]; exact hj, fun h => ⟨i, h, rfl⟩⟩
theorem ksOf_nodup {c : Int} : ∀ {l : List Nat}, (∀ i ∈ l, i < 5) → l.Nodup → (ksOf c l).Nodup
  | [], _, _ => List.nodup_nil
  | i :: r, hl, hn => by
    obtain ⟨h1, h2⟩ := List.nodup_cons.1 hn
    show (rk c i :: ksOf c r).Nodup
    exact List.nodup_cons.2 ⟨fun h => h1 ((ksOf_mem (fun j hj => hl j (by simp [hj])) (hl i (by simp))).1 h), ksOf_nodup (fun j hj => hl j (by simp [hj])) h2⟩

/-- No transaction is open; the keys of these numbers are committed. -/
structure Idle (c : Int) (P : Sp) (C : List Nat) : Prop where
  lt : ∀ i ∈ C, i < 5
  nodup : C.Nodup
  tx : ∀ u, P.tx u = none
  comm : ∀ key, (P.comm key).1 = true ↔ key ∈ ksOf c C
  nopen : P.nopen = 0
/-- One is open, and sees the keys of V; those of T are taken. -/
structure Sit (c : Int) (P : Sp) (t : Int) (p : TxP) (T V : List Nat) : Prop where
  ltT : ∀ i ∈ T, i < 5
  ltV : ∀ i ∈ V, i < 5
  nodT : T.Nodup
  nodV : V.Nodup
  tx : ∀ u, P.tx u = if u = t then some p else none
  taken : ∀ key, ((P.comm key).1 = true ∨ (p.wrote key).isSome = true) ↔ key ∈ ksOf c T
  view : ∀ key, ((p.wrote key).getD (P.comm key)).1 = true ↔ key ∈ ksOf c V
  nopen : P.nopen = 1

theorem Idle.begin {c : Int} {P : Sp} {C : List Nat} (h : Idle c P C) : Sit c P.begin ((P.next : Int) + 1) TxP.new C C :=
  ⟨h.lt, h.lt, h.nodup, h.nodup, fun u => by simp only [Sp.begin]; rw [h.tx], fun key => by rw [← h.comm]; simp [Sp.begin, TxP.new], fun key => by rw [← h.comm]; simp [Sp.begin, TxP.new], by show P.nopen + 1 = 1; rw [h.nopen]⟩

theorem Sit.commit {c : Int} {P : Sp} {t : Int} {p : TxP} {T V : List Nat} (h : Sit c P t p T V) : Idle c (P.commit t p) V :=
  ⟨h.ltV, h.nodV, fun u => by simp only [Sp.commit]; rw [h.tx]; split <;> rfl, fun key => h.view key, by show P.nopen - 1 = 0; rw [h.nopen]⟩

theorem Sit.room {c : Int} {P : Sp} {t : Int} {p : TxP} {T V : List Nat} (h : Sit c P t p T V) {i : Nat} (hi : i < 5) : HasRoom P (rk c i) ↔ i ∈ T ∨ T.length < 4 := by
  have hm : ∀ key, key ∈ ksOf c T ↔ Go.Proofs.YtihbngfbcnojcaaGreat.taken P (bucket (rk c i)) key := fun key => by
    unfold Go.Proofs.YtihbngfbcnojcaaGreat.taken
    have h1 : (∃ u p', P.tx u = some p' ∧ (p'.wrote key).isSome = true) ↔ (p.wrote key).isSome = true := by
      constructor
      · rintro ⟨u, p', hp', hw⟩
        rw [h.tx] at hp'
        split at hp'
        · simp only [Option.some.injEq] at hp'; rw [hp']; exact hw
        · cases hp'
      · exact fun hw => ⟨t, p, by rw [h.tx]; simp, hw⟩
    rw [h1, h.taken]
    refine ⟨fun hk => ⟨?_, hk⟩, fun hk => hk.2⟩
    obtain ⟨j, hj, rfl⟩ := List.mem_map.1 hk
    rw [rk_bucket c j, rk_bucket c i]
  constructor
  · rintro ⟨L, l1, l2, l3⟩
    have e : ∀ key, key ∈ L ↔ key ∈ ksOf c T := fun key => (l2 key).trans (hm key).symm
    rcases l3 with l3 | l3
    · exact .inl ((ksOf_mem h.ltT hi).1 ((e _).1 l3))
    · refine .inr ?_
      have := length_same l1 (ksOf_nodup h.ltT h.nodT) e
      simp only [ksOf, List.length_map] at this
      omega
  · rintro (h1 | h1)
    · exact ⟨ksOf c T, ksOf_nodup h.ltT h.nodT, hm, .inl ((ksOf_mem h.ltT hi).2 h1)⟩
    · exact ⟨ksOf c T, ksOf_nodup h.ltT h.nodT, hm, .inr (by simp only [ksOf, List.length_map]; exact h1)⟩

theorem Sit.may {c : Int} {P : Sp} {t : Int} {p : TxP} {T V : List Nat} (h : Sit c P t p T V) {i : Nat} (hi : i < 5) (ce : Bool × ByteArray) (hv : ce.2.size ≤ 12) (hn : norm ce = ce) (ha : P.acts < 120) (hr : i ∈ T ∨ T.length < 4) : MayPut P t p (rk c i) ce :=
  ⟨by rw [h.tx]; simp, by rw [rk_size]; omega, hv, hn, (fun u p' hp' hu => by rw [h.tx, if_neg hu] at hp'; cases hp'), ha, (h.room hi).2 hr⟩

theorem Sit.write {c : Int} {P : Sp} {t : Int} {p : TxP} {T V : List Nat} (h : Sit c P t p T V) {i : Nat} (hi : i < 5) (ce : Bool × ByteArray) (T' V' : List Nat) (hT' : T' = if i ∈ T then T else i :: T) (hV' : V' = if ce.1 then i :: V.filter (· ≠ i) else V.filter (· ≠ i)) : Sit c (P.write t p (rk c i) ce) t (p.put (rk c i) ce) T' V' := by
  have hfl : ∀ j ∈ V.filter (· ≠ i), j < 5 := fun j hj => h.ltV j (List.mem_filter.1 hj).1
  have hfm : ∀ key, key ∈ ksOf c (V.filter (· ≠ i)) ↔ key ≠ rk c i ∧ key ∈ ksOf c V := fun key => by
    unfold ksOf
    rw [List.mem_map, List.mem_map]
    constructor
    · rintro ⟨j, hj, rfl⟩
      obtain ⟨h1, h2⟩ := List.mem_filter.1 hj
      exact ⟨fun e => by simp at h2; exact h2 (rk_inj (h.ltV j h1) hi e), j, h1, rfl⟩
    · rintro ⟨h1, j, hj, rfl⟩
      exact ⟨j, List.mem_filter.2 ⟨hj, by simp; exact fun e => h1 (by rw [e])⟩, rfl⟩
  have hput : ∀ key, (p.put (rk c i) ce).wrote key = if key = rk c i then some ce else p.wrote key := fun key => rfl
  subst hT' hV'
  refine ⟨?_, ?_, ?_, ?_, fun u => ?_, fun key => ?_, fun key => ?_, h.nopen⟩
  · split
    · exact h.ltT
    · intro j hj
      rcases List.mem_cons.1 hj with rfl | hj
      · exact hi
      · exact h.ltT j hj
  · split
    · intro j hj
      rcases List.mem_cons.1 hj with rfl | hj
      · exact hi
      · exact hfl j hj
    · exact hfl
  · split
    · exact h.nodT
    · rename_i hni
      exact List.nodup_cons.2 ⟨hni, h.nodT⟩
  · split
    · exact List.nodup_cons.2 ⟨fun hj => by have := (List.mem_filter.1 hj).2; simp at this, h.nodV.filter _⟩
    · exact h.nodV.filter _
  · simp only [Sp.write]
    by_cases hu : u = t
    · rw [if_pos hu, if_pos hu]
    · rw [if_neg hu, if_neg hu, h.tx, if_neg hu]
  · show ((P.comm key).1 = true ∨ ((p.put (rk c i) ce).wrote key).isSome = true) ↔ _
    rw [hput]
    by_cases he : key = rk c i
    · rw [if_pos he]
      refine ⟨fun _ => ?_, fun _ => .inr rfl⟩
      rw [he]
      split
      · rename_i hin; exact (ksOf_mem h.ltT hi).2 hin
      · exact List.mem_map.2 ⟨i, by simp, rfl⟩
    · rw [if_neg he, h.taken]
      split
      · exact Iff.rfl
      · show _ ↔ key ∈ rk c i :: ksOf c T
        rw [List.mem_cons]
        exact ⟨.inr, fun h => h.resolve_left he⟩
  · show (((p.put (rk c i) ce).wrote key).getD (P.comm key)).1 = true ↔ _
    rw [hput]
    by_cases he : key = rk c i
    · rw [if_pos he]
      show ce.1 = true ↔ _
      cases hc : ce.1
      · simp only [Bool.false_eq_true, if_false, false_iff]
        exact fun h => ((hfm key).1 h).1 he
      · simp only [if_true, true_iff]
        rw [he]
        exact List.mem_map.2 ⟨i, by simp, rfl⟩
    · rw [if_neg he, h.view]
      cases hc : ce.1
      · simp only [Bool.false_eq_true, if_false]
        rw [hfm]
        exact ⟨fun h => ⟨he, h⟩, fun h => h.2⟩
      · simp only [if_true]
        show _ ↔ key ∈ rk c i :: ksOf c (V.filter (· ≠ i))
        rw [List.mem_cons, hfm]
        exact ⟨fun h => .inr ⟨he, h⟩, fun h => (h.resolve_left he).2⟩

theorem Idle.count {c : Int} {P : Sp} {C : List Nat} (h : Idle c P C) {ps : Pairs} (hr : RisingAt ps) (hu : ∀ key, under ps key = P.comm key) : ps.length = C.length := by
  have h1 := length_same (rising_nodup hr) (ksOf_nodup h.lt h.nodup) (fun key => by
    rw [← h.comm, ← hu, under_in, List.mem_map])
  simp only [List.length_map, ksOf] at h1
  exact h1
end Go.Proofs.YtihbngfbcnojcaaGreat

namespace Go.Proofs.YtihbngfbcnojcaaGreat
open Go.RowKit

/-- What is in X lies as it lay. -/
def Stays (w w' : World) (X : Nat → Prop) : Prop := Below 0 w w' ∧ ∀ x, X x → w'.heap[x]? = w.heap[x]?
/-- A store in which nothing is open. -/
def RIdle (w : World) (a : Nat) (k : Bool) (X : Nat → Prop) (c : Int) (C : List Nat) (q A Ln nx : Nat) : Prop := ∃ P, Store w a k P X q ∧ Idle c P C ∧ P.acts ≤ A ∧ P.len ≤ Ln ∧ P.next = nx
/-- .. in which one transaction is. -/
def RSit (w : World) (a : Nat) (k : Bool) (X : Nat → Prop) (c : Int) (T V : List Nat) (q A Ln nx : Nat) : Prop := ∃ P p, Store w a k P X q ∧ Sit c P (nx : Int) p T V ∧ P.acts ≤ A ∧ P.len ≤ Ln ∧ P.next = nx

theorem rBegin {w : World} {a : Nat} {k : Bool} {X : Nat → Prop} {c : Int} {C : List Nat} {q A Ln nx : Nat} (h : RIdle w a k X c C q A Ln nx) (hA : A < 120) (hn : nx ≤ 200) :
    Calls Tryz.prog 19 #[.pointer (some ⟨a, 0, none⟩)] w fun e w' => e = .returned (.tuple #[.int .i64 ((nx + 1 : Nat) : Int), .int .i64 0]) ∧ RSit w' a k X c C C q (A + 1) Ln (nx + 1) ∧ Stays w w' X := by
  obtain ⟨P, S, I, h1, h2, rfl⟩ := h
  refine (sBegin S (by rw [I.nopen]; omega) (by omega) hn).mono ?_
  rintro e w' ⟨rfl, h3, h4⟩
  refine ⟨?_, ⟨P.begin, TxP.new, h3, I.begin, by show P.acts + 1 ≤ A + 1; omega, h2, rfl⟩, h4⟩
  simp

theorem rWrite {w : World} {a : Nat} {k : Bool} {X : Nat → Prop} {c : Int} {T V : List Nat} {q A Ln nx : Nat} (h : RSit w a k X c T V q A Ln nx) (hA : A < 120) (hL : Ln ≤ 390) (hq : q ≤ 99999) (hn : nx < 256) (i : Nat) (hi : i < 5) (ce : Bool × ByteArray) (hv : ce.2.size ≤ 12) (hno : norm ce = ce) (hr : i ∈ T ∨ T.length < 4) (T' V' : List Nat) (hT' : T' = if i ∈ T then T else i :: T) (hV' : V' = if ce.1 then i :: V.filter (· ≠ i) else V.filter (· ≠ i)) :
    Calls Tryz.prog 42 #[.pointer (some ⟨a, 0, none⟩), .int .i64 (nx : Int), .string (rk c i), .agg #[.bool ce.1, .string ce.2]] w fun e w' => ∃ r, e = .returned (.int .i64 r) ∧ r = 0 ∧ RSit w' a k X c T' V' (q + 1) (A + 1) (Ln + 1) nx ∧ Stays w w' X := by
  obtain ⟨P, p, S, I, h1, h2, h3⟩ := h
  refine (write_ok S hq (by omega) (nx : Int) (by omega) p (rk c i) ce (I.may hi ce hv hno (by omega) hr)).mono ?_
  rintro e w' ⟨r, h4, h5, h6, h7⟩
  exact ⟨r, h4, h5, ⟨_, _, h6, I.write hi ce T' V' hT' hV', by show P.acts + 1 ≤ A + 1; omega, by show P.len + 1 ≤ Ln + 1; omega, h3⟩, h7⟩

theorem rFull {w : World} {a : Nat} {k : Bool} {X : Nat → Prop} {c : Int} {T V : List Nat} {q A Ln nx : Nat} (h : RSit w a k X c T V q A Ln nx) (hq : q ≤ 99999) (hn : nx < 256) (i : Nat) (hi : i < 5) (ce : Bool × ByteArray) (hv : ce.2.size ≤ 12) (hr : ¬ (i ∈ T ∨ T.length < 4)) :
    Calls Tryz.prog 42 #[.pointer (some ⟨a, 0, none⟩), .int .i64 (nx : Int), .string (rk c i), .agg #[.bool ce.1, .string ce.2]] w fun e w' => ∃ r, e = .returned (.int .i64 r) ∧ r = 10 ∧ RSit w' a k X c T V q A Ln nx ∧ Stays w w' X := by
  obtain ⟨P, p, S, I, h1, h2, h3⟩ := h
  refine (write_full S (by omega) (nx : Int) ⟨by omega, by omega⟩ p (by rw [I.tx]; simp) (rk c i) (by rw [rk_size]; omega) ce hv (fun u p' hp' hu => by rw [I.tx, if_neg hu] at hp'; cases hp') (fun hh => hr ((I.room hi).1 hh))).mono ?_
  rintro e w' ⟨r, h4, h5, h6, h7⟩
  exact ⟨r, h4, h5, ⟨P, p, h6, I, h1, h2, h3⟩, h7⟩

theorem rCommit {w : World} {a : Nat} {k : Bool} {X : Nat → Prop} {c : Int} {T V : List Nat} {q A Ln nx : Nat} (h : RSit w a k X c T V q A Ln nx) (hL : Ln ≤ 270) (hn : nx < 256) :
    Calls Tryz.prog 21 #[.pointer (some ⟨a, 0, none⟩), .int .i64 (nx : Int)] w fun e w' => e = .returned (.int .i64 0) ∧ RIdle w' a k X c V q A (Ln + 122) nx ∧ Stays w w' X := by
  obtain ⟨P, p, S, I, h1, h2, h3⟩ := h
  refine (commit_ok S (by omega) (nx : Int) (by omega) p (by rw [I.tx]; simp)).mono ?_
  rintro e w' ⟨h4, h5, h6⟩
  exact ⟨h4, ⟨_, h5, I.commit, h1, by show P.len + 122 ≤ _; omega, h3⟩, h6⟩

/-- Put and Delete, over what write does. -/
theorem rPut {w : World} {a : Nat} {t : Int} {key val : ByteArray} {r0 : Int} {R : World → Prop} (h : Calls Tryz.prog 42 #[.pointer (some ⟨a, 0, none⟩), .int .i64 t, .string key, .agg #[.bool true, .string val]] w fun e w' => ∃ r, e = .returned (.int .i64 r) ∧ r = r0 ∧ R w') :
    Calls Tryz.prog 20 #[.pointer (some ⟨a, 0, none⟩), .int .i64 t, .string key, .string val] w fun e w' => e = .returned (.int .i64 r0) ∧ R w' := by
  refine (put_of a t key val w (fun r w' => r = r0 ∧ R w') h).mono ?_
  rintro e w' ⟨r, h1, rfl, h2⟩
  exact ⟨h1, h2⟩
theorem rDelete {w : World} {a : Nat} {t : Int} {key : ByteArray} {r0 : Int} {R : World → Prop} (h : Calls Tryz.prog 42 #[.pointer (some ⟨a, 0, none⟩), .int .i64 t, .string key, .agg #[.bool false, .string ByteArray.empty]] w fun e w' => ∃ r, e = .returned (.int .i64 r) ∧ r = r0 ∧ R w') :
    Calls Tryz.prog 24 #[.pointer (some ⟨a, 0, none⟩), .int .i64 t, .string key] w fun e w' => e = .returned (.int .i64 r0) ∧ R w' := by
  refine (delete_of a t key w (fun r w' => r = r0 ∧ R w') h).mono ?_
  rintro e w' ⟨r, h1, rfl, h2⟩
  exact ⟨h1, h2⟩

set_option maxHeartbeats 400000 in
/-- The keep's dump. -/
theorem rDump {w : World} {a : Nat} {k : Bool} {X : Nat → Prop} {c : Int} {C : List Nat} {q A Ln nx : Nat} (h : RIdle w a k X c C q A Ln nx) :
    Calls Tryz.prog 22 #[.pointer (some ⟨a, 0, none⟩)] w fun e w' => ∃ ad cp, e = .returned (.tuple #[.slice ad C.length cp, .bool true]) ∧ Stays w w' X := by
  obtain ⟨P, S, I, h1, h2, h3⟩ := h
  have K : Hid (Calls Tryz.prog 35 #[.pointer (some ⟨a, 0, none⟩)] w fun e w' => ∃ ad cp, e = .returned (.tuple #[.slice ad C.length cp, .int .i64 0]) ∧ Stays w w' X) := by
    refine (dump_idle S I.nopen).mono ?_
    rintro e w' ⟨v, rfl, B, ps, h4, h5, h6, h7, h8⟩
    obtain ⟨ad, cp, rfl, _⟩ := owns_slice' h4
    rw [I.count h6 h7]
    exact ⟨ad, cp, rfl, h8.2⟩
  clear S I
  go_enter Tryz.func22, Tryz.ntmps22
  go_wp2_with (first
    | (go_at_call 35; go_must (refine K.out.mono ?_; rintro e w1 ⟨ad, cp, rfl, hb⟩)))
  go_ret2
  exact ⟨ad, cp, rfl, hb⟩

theorem Store.touch {w w' : World} {a : Nat} {k : Bool} {P : Sp} {X : Nat → Prop} {q : Nat} (S : Store w a k P X q) (ha : w'.heap[a]? = w.heap[a]?) (hk : ∀ x, x < w.heap.size → ¬ X x → w'.heap[x]? = w.heap[x]?) (hb : Below 0 w w') : Store w' a k P X q := by
  obtain ⟨s, L, R, hX⟩ := S
  refine ⟨s, ⟨L.lies.frame (fun tag x hx => hk x (L.lies.lt tag x hx) (fun hxx => (hX x hxx).2 tag hx)) hb.size, L.good, L.held, L.cap, by have := L.haw; have := hb.size; omega, L.hao, (World.cell?_of_block ha).trans L.ca⟩, R, fun x hx => ⟨by have := (hX x hx).1; have := hb.size; omega, (hX x hx).2⟩⟩
theorem Store.grow {w w' : World} {a : Nat} {k : Bool} {P : Sp} {X : Nat → Prop} {q : Nat} (S : Store w a k P X q) (hb : Below w.heap.size w w') (X' : Nat → Prop) (hX' : ∀ x, X' x → X x ∨ (w.heap.size ≤ x ∧ x < w'.heap.size)) : Store w' a k P X' q := by
  obtain ⟨s, L, R, hX⟩ := S
  refine ⟨s, L.go (Goes.of_below L.lies L.good hb) L.held L.cap rfl, R, fun x hx => ?_⟩
  have hs := hb.size
  rcases hX' x hx with h | ⟨h1, h2⟩
  · exact ⟨by have := (hX x h).1; omega, (hX x h).2⟩
  · exact ⟨h2, fun tag ht => by have := L.lies.lt tag x ht; omega⟩
end Go.Proofs.YtihbngfbcnojcaaGreat

namespace Go.Proofs.YtihbngfbcnojcaaGreat
open Go.RowKit

def modeI : Bool → Int
  | true => 0
  | false => 1
set_option maxHeartbeats 400000 in
theorem mode_any (m : Int) (w : World) :
    Calls Tryz.prog 18 #[.int .i64 m] w fun e w' => ∃ b : Bool, e = .returned (.int .i64 (modeI b)) ∧ w = w' := by
  go_enter Tryz.func18, Tryz.ntmps18
  go_wp2
  · go_ret
    exact ⟨true, rfl, rfl⟩
  · go_ret
    exact ⟨false, rfl, rfl⟩

set_option maxHeartbeats 400000 in
theorem fresh_any (b : Bool) (w : World) :
    Calls Tryz.prog 17 #[.int .i64 (modeI b)] w fun e w' => ∃ a s, e = .returned (.pointer (some ⟨a, 0, none⟩)) ∧ Below w.heap.size w w' ∧ NewStore w w' a b s := by
  cases b with
  | true =>
    simp only [modeI]
    go_enter Tryz.func17, Tryz.ntmps17
    go_wp2_with (first
      | (go_at_call 40; go_must (refine (newFull_steal w).mono ?_; rintro e w1 ⟨a, s, rfl, hb, hn⟩; have HN : Hid (Below w.heap.size w w1 ∧ NewStore w w1 a true s) := ⟨hb, hn⟩; clear hb hn)))
    go_ret
    exact ⟨a, s, rfl, HN.out⟩
  | false =>
    simp only [modeI]
    go_enter Tryz.func17, Tryz.ntmps17
    go_wp2_with (first
      | (go_at_call 40; go_must (refine (newFull_noSteal w).mono ?_; rintro e w1 ⟨a, s, rfl, hb, hn⟩; have HN : Hid (Below w.heap.size w w1 ∧ NewStore w w1 a false s) := ⟨hb, hn⟩; clear hb hn)))
    go_ret
    exact ⟨a, s, rfl, HN.out⟩

/-- The numbers below, the last one first. -/
def Ti : Nat → List Nat
  | 0 => []
  | n + 1 => n :: Ti n
theorem Ti_step (i : Nat) (hi : i < 4) : (i ∈ Ti i ∨ (Ti i).length < 4) ∧ (Ti (i + 1) = if i ∈ Ti i then Ti i else i :: Ti i) ∧ Ti (i + 1) = i :: (Ti i).filter (· ≠ i) := by
  have h : i = 0 ∨ i = 1 ∨ i = 2 ∨ i = 3 := by omega
  rcases h with rfl | rfl | rfl | rfl <;> simp [Ti]

/-- Room's array of keys, so far. -/
def kc (c : Int) (i : Nat) : Array Value := #[.string (if 0 < i then rk c 0 else ByteArray.empty), .string (if 1 < i then rk c 1 else ByteArray.empty), .string (if 2 < i then rk c 2 else ByteArray.empty), .string (if 3 < i then rk c 3 else ByteArray.empty), .string (if 4 < i then rk c 4 else ByteArray.empty)]
theorem kc_step (c : Int) (i : Nat) (hi : i < 5) : (kc c i).setIfInBounds i (.string (rk c i)) = kc c (i + 1) := by
  have h : i = 0 ∨ i = 1 ∨ i = 2 ∨ i = 3 ∨ i = 4 := by omega
  rcases h with rfl | rfl | rfl | rfl | rfl <;> simp [kc]
theorem kc_at (c : Int) (i : Nat) (hi : i < 5) : ∃ u, (kc c i)[i]? = some u := by
  have h : i = 0 ∨ i = 1 ∨ i = 2 ∨ i = 3 ∨ i = 4 := by omega
  rcases h with rfl | rfl | rfl | rfl | rfl <;> exact ⟨_, rfl⟩

/-- Room's keys lie at kk, and what was there ahead of all lies as it lay. -/
def Keys (w0 w : World) (c : Int) (kk i : Nat) : Prop := w.heap[kk]? = some (.cells (kc c i) 45 (0, 0)) ∧ Below w0.heap.size w0 w
/-- What Room's caller has, and its keys. -/
def Mine (w0 : World) (kk : Nat) (x : Nat) : Prop := x < w0.heap.size ∨ x = kk
theorem Keys.stays {w0 w w' : World} {c : Int} {kk i : Nat} (h : Keys w0 w c kk i) (hs : Stays w w' (Mine w0 kk)) : Keys w0 w' c kk i :=
  ⟨(hs.2 kk (.inr rfl)).trans h.1, ⟨hs.1.os.trans h.2.os, hs.1.tape.trans h.2.tape, hs.1.output.trans h.2.output, by have := hs.1.size; have := h.2.size; omega, fun x hx => (hs.2 x (.inl hx)).trans (h.2.block x hx)⟩⟩
theorem Keys.at2 {w0 w : World} {c : Int} {kk : Nat} (h : Keys w0 w c kk 5) : w.cell? ⟨kk, 2, none⟩ = some (.string (rk c 2)) ∧ w.cell? ⟨kk, 4, none⟩ = some (.string (rk c 4)) := ⟨cell_at (j := 2) h.1 rfl, cell_at (j := 4) h.1 rfl⟩

/-- One key more. -/
theorem keys_more {w0 wr : World} {a : Nat} {k : Bool} {c : Int} {kk i : Nat} {P : Sp} (hi : i < 5) (S : Store wr a k P (Mine w0 kk) 0) (K : Keys w0 wr c kk i) (hak : a ≠ kk) (hk0 : w0.heap.size ≤ kk) (B : Obj) :
    Store ((wr.setCell ⟨kk, i, none⟩ (.string (rk c i))).alloc B) a k P (Mine w0 kk) 0 ∧ Keys w0 ((wr.setCell ⟨kk, i, none⟩ (.string (rk c i))).alloc B) c kk (i + 1) := by
  have hb : Below 0 wr (wr.setCell ⟨kk, i, none⟩ (.string (rk c i))) := (Below.refl _ _).setCell (p := ⟨kk, i, none⟩) (Nat.zero_le _) _
  have S1 : Store (wr.setCell ⟨kk, i, none⟩ (.string (rk c i))) a k P (Mine w0 kk) 0 := S.touch (Below.heap_setCell _ _ _ _ hak) (fun x _ hx => Below.heap_setCell _ _ _ _ (fun e => hx (.inr e))) hb
  have hkk : (wr.setCell ⟨kk, i, none⟩ (.string (rk c i))).heap[kk]? = some (.cells (kc c (i + 1)) 45 (0, 0)) := by rw [← kc_step c i hi]; exact setCell_at wr kk i _ _ _ K.1
  have hba := (Below.refl (wr.setCell ⟨kk, i, none⟩ (.string (rk c i))).heap.size (wr.setCell ⟨kk, i, none⟩ (.string (rk c i)))).alloc (Nat.le_refl _) B
  refine ⟨S1.grow hba _ (fun x hx => .inl hx), (hba.block _ (lt_of_block' hkk)).trans hkk, ?_⟩
  have h2 : Below w0.heap.size w0 (wr.setCell ⟨kk, i, none⟩ (.string (rk c i))) := K.2.setCell (p := ⟨kk, i, none⟩) hk0 _
  exact h2.trans (hba.mono h2.size)

theorem conv_key (c : Int) (hc : 0 ≤ c ∧ c < 256) (i : Nat) (hi : i < 5) (w : World) (cap : Nat) : (convert 46 9 (.slice (some ⟨w.heap.size, 0, none⟩) 2 cap)).run Tryz.prog (w.alloc (.cells #[.int .u8 c, .int .u8 (8 * (i : Int))] 5)) = .ok (.string (rk c i)) (w.alloc (.cells #[.int .u8 c, .int .u8 (8 * (i : Int))] 5)) := by
  have e0 : ((UInt8.ofNat c.toNat).toNat : Int) = c := by rw [UInt8.toNat_ofNat']; omega
  have e1 : ((UInt8.ofNat (8 * i)).toNat : Int) = 8 * (i : Int) := by rw [UInt8.toNat_ofNat']; omega
  have h := run_convert_bytes_back (P := Tryz.prog) (w.alloc (.cells #[.int .u8 c, .int .u8 (8 * (i : Int))] 5)) 46 9 5 ⟨w.heap.size, 0, none⟩ cap [UInt8.ofNat c.toNat, UInt8.ofNat (8 * i)] Tryz.underlying46 Tryz.underlying5 Tryz.underlying9 (fun j hj => by
    rw [add_zero0]
    have h2 : j = 0 ∨ j = 1 := by simp at hj; omega
    rcases h2 with rfl | rfl
    · refine (cell_at (j := 0) (heap_alloc_new w _) rfl).trans ?_
      simp only [List.getElem_cons_zero]
      rw [e0]; rfl
    · refine (cell_at (j := 1) (heap_alloc_new w _) rfl).trans ?_
      simp only [List.getElem_cons_succ, List.getElem_cons_zero]
      rw [e1]; rfl)
  exact h

set_option maxRecDepth 100000 in
set_option maxHeartbeats 8000000 in
theorem room_walk (m c : Int) (hc : 0 ≤ c ∧ c < 256) (w : World) :
    Calls Tryz.prog 8 #[.int .i64 m, .int .u8 c] w fun e w' => e = .returned (.bool true) ∧ Below w.heap.size w w' := by
  go_enter Tryz.func8, Tryz.ntmps8
  go_wp2_with (first
    | (go_at_call 18; go_must (refine (mode_any m w).mono ?_; rintro e w0 ⟨b, rfl, rfl⟩))
    | (go_at_call 17; go_must (
        refine (fresh_any b w).mono ?_
        rintro e w1 ⟨a, s, rfl, hb1, hn1⟩
        have HN : Hid (Below w.heap.size w w1 ∧ NewStore w w1 a b s) := ⟨hb1, hn1⟩
        clear hb1 hn1)))
  obtain ⟨kk, hkk⟩ : ∃ kk, kk = w1.heap.size := ⟨_, rfl⟩
  obtain ⟨w2, hw2⟩ : ∃ w2, w2 = w1.alloc (.cells #[.string ⟨#[]⟩, .string ⟨#[]⟩, .string ⟨#[]⟩, .string ⟨#[]⟩, .string ⟨#[]⟩] 45) := ⟨_, rfl⟩
  have hak : a ≠ kk := by have := HN.out.2.live.haw; omega
  have hk0 : w.heap.size ≤ kk := by have := HN.out.1.size; omega
  have HS : Hid (Store w2 a b Sp.empty (Mine w kk) 0 ∧ Keys w w2 c kk 0) := by
    have hb2 : Below w1.heap.size w1 w2 := by rw [hw2]; exact (Below.refl _ w1).alloc (Nat.le_refl _) _
    refine ⟨(newStore_store HN.out.2 HN.out.1).grow hb2 _ (fun x hx => ?_), ?_, HN.out.1.trans (hb2.mono HN.out.1.size)⟩
    · rcases hx with hx | hx
      · exact .inl hx
      · exact .inr ⟨by omega, by rw [hw2, hx, hkk]; simp⟩
    · rw [hw2, hkk]; exact heap_alloc_new w1 _
  rw [← hw2, ← hkk]
  clear hw2 hkk HN
  go_loopw [7] (fun ix wr => ∃ i : Nat, i ≤ 5 ∧ ix = .int .i64 i ∧ Store wr a b Sp.empty (Mine w kk) 0 ∧ Keys w wr c kk i) (fun ix _ => 5 - (intOf ix).toNat)
  case atStart => exact ⟨0, by omega, rfl, HS.out⟩
  case round =>
    obtain ⟨i, hi, rfl, hS, hK⟩ := hrel
    by_cases hlt : i < 5
    · have hlt' : (i : Int) < 5 := by omega
      obtain ⟨u, hu⟩ := kc_at c i hlt
      have z0 := cell_at (j := i) hK.1 hu
      have y0 := frozen_at i hK.1
      have hkw := lt_of_block' hK.1
      have hcv := fun cap => conv_key c hc i hlt wr cap
      have hw8 : wrap64 (8 * (i : Int)) = 8 * (i : Int) := by simp only [wrap64]; omega
      have hw9 : IntKind.u8.wrap (8 * (i : Int)) = 8 * (i : Int) := by rw [IntKind.wrap_u8]; omega
      have HMO : Hid (∀ B, Store ((wr.setCell ⟨kk, i, none⟩ (.string (rk c i))).alloc B) a b Sp.empty (Mine w kk) 0 ∧ Keys w ((wr.setCell ⟨kk, i, none⟩ (.string (rk c i))).alloc B) c kk (i + 1)) := fun B => keys_more hlt hS hK hak hk0 B
      clear hS hK
      go_wp2
      refine ⟨⟨i + 1, by omega, by simp, ?_⟩, by simp [intOf]; omega⟩
      exact HMO.out _
    · obtain rfl : i = 5 := by omega
      have HS5 : Hid (Store wr a b Sp.empty (Mine w kk) 0 ∧ Keys w wr c kk 5) := ⟨hS, hK⟩
      have HI : Hid (RIdle wr a b (Mine w kk) c [] 0 0 0 0) := ⟨Sp.empty, hS, ⟨(fun i hi => by cases hi), List.nodup_nil, fun _ => rfl, fun key => by simp [Sp.empty, ksOf], rfl⟩, Nat.le_refl _, Nat.le_refl _, rfl⟩
      clear hS hK
      go_wp2_with (first
        | (go_at_call 19; go_must (
            refine (rBegin HI.out (by omega) (by omega)).mono ?_
            rintro e w3 ⟨rfl, hs, hst⟩
            have HB1 : Hid (RSit w3 a b (Mine w kk) c [] [] 0 1 0 1) := hs
            have HKB : Hid (Keys w w3 c kk 5) := HS5.out.2.stays hst
            clear hs hst)))
      clear HS5 HI
      go_loopw [9, 10] (fun ev ix wr => ∃ i : Nat, i ≤ 4 ∧ ev = .int .i64 0 ∧ ix = .int .i64 i ∧ RSit wr a b (Mine w kk) c (Ti i) (Ti i) i (1 + i) i 1 ∧ Keys w wr c kk 5) (fun _ ix _ => 4 - (intOf ix).toNat)
      case atStart => exact ⟨0, by omega, rfl, rfl, HB1.out, HKB.out⟩
      case round =>
        obtain ⟨i, hi, rfl, rfl, hS, hK⟩ := hrel
        have HSI : Hid (RSit wr a b (Mine w kk) c (Ti i) (Ti i) i (1 + i) i 1) := hS
        have HKI : Hid (Keys w wr c kk 5) := hK
        by_cases hlt : i < 4
        · have hlt' : (i : Int) < 4 := by omega
          have z0 : wr.cell? ⟨kk, i, none⟩ = some (.string (rk c i)) := by
            have h : i = 0 ∨ i = 1 ∨ i = 2 ∨ i = 3 := by omega
            rcases h with rfl | rfl | rfl | rfl
            · exact cell_at (j := 0) hK.1 rfl
            · exact cell_at (j := 1) hK.1 rfl
            · exact cell_at (j := 2) hK.1 rfl
            · exact cell_at (j := 3) hK.1 rfl
          obtain ⟨t1, t2, t3⟩ := Ti_step i hlt
          have KP : Hid (Calls Tryz.prog 20 #[.pointer (some ⟨a, 0, none⟩), .int .i64 1, .string (rk c i), .string ⟨#[118]⟩] wr fun e w' => e = .returned (.int .i64 0) ∧ RSit w' a b (Mine w kk) c (Ti (i + 1)) (Ti (i + 1)) (i + 1) (1 + i + 1) (i + 1) 1 ∧ Stays wr w' (Mine w kk)) := rPut (rWrite HSI.out (by omega) (by omega) (by omega) (by omega) i (by omega) (true, ⟨#[118]⟩) (by decide) rfl t1 (Ti (i + 1)) (Ti (i + 1)) t2 t3)
          clear hS hK t1 t2 t3
          go_wp2_with (first
            | (go_at_call 20; go_must (
                refine KP.out.mono ?_
                rintro e w4 ⟨rfl, hs, hst⟩
                have HS4 := @id (Hid (RSit w4 _ _ _ _ _ _ _ _ _ _)) hs
                have HK4 : Hid (Keys w w4 c kk 5) := HKI.out.stays hst
                clear hs hst)))
          exact ⟨⟨i + 1, by omega, rfl, by simp, HS4.out, HK4.out⟩, by simp [intOf]; omega⟩
        · obtain rfl : i = 4 := by omega
          have HS0 : Hid (RSit wr a b (Mine w kk) c [3, 2, 1, 0] [3, 2, 1, 0] 4 5 4 1) := HSI.out
          have HK0 : Hid (Keys w wr c kk 5) := HKI.out
          obtain ⟨u2, u4⟩ := HK0.out.at2
          clear hS hK HSI HKI HB1 HKB
          have tp1 : True := trivial
          have tc1 : True := trivial
          have tb2 : True := trivial
          have td1 : True := trivial
          have tp2 : True := trivial
          have td2 : True := trivial
          have tp3 : True := trivial
          have td3 : True := trivial
          have tc2 : True := trivial
          have tb3 : True := trivial
          have tp4 : True := trivial
          have tc3 : True := trivial
          go_wp2_with (first
      | (have _t := tp1; go_at_call 20; go_must (
          clear tp1
          refine (rPut (rFull HS0.out (by omega) (by omega) 4 (by omega) (true, ⟨#[118]⟩) (by decide) (by simp))).mono ?_
          rintro e x1 ⟨rfl, hs, hst⟩
          have HS1 : Hid (RSit x1 a b (Mine w kk) c [3, 2, 1, 0] [3, 2, 1, 0] 4 5 4 1) := hs
          have HK1 : Hid (Keys w x1 c kk 5) := HK0.out.stays hst
          obtain ⟨u2, u4⟩ := HK1.out.at2
          clear hs hst))
      | (have _t := tc1; go_at_call 21; go_must (
          clear tc1
          refine (rCommit HS1.out (by omega) (by omega)).mono ?_
          rintro e x2 ⟨rfl, hs, hst⟩
          have HS2 : Hid (RIdle x2 a b (Mine w kk) c [3, 2, 1, 0] 4 5 126 1) := hs
          have HK2 : Hid (Keys w x2 c kk 5) := HK1.out.stays hst
          obtain ⟨u2, u4⟩ := HK2.out.at2
          clear hs hst))
      | (have _t := tb2; go_at_call 19; go_must (
          clear tb2
          refine (rBegin HS2.out (by omega) (by omega)).mono ?_
          rintro e x3 ⟨rfl, hs, hst⟩
          have HS3 : Hid (RSit x3 a b (Mine w kk) c [3, 2, 1, 0] [3, 2, 1, 0] 4 6 126 2) := hs
          have HK3 : Hid (Keys w x3 c kk 5) := HK2.out.stays hst
          obtain ⟨u2, u4⟩ := HK3.out.at2
          clear hs hst))
      | (have _t := td1; go_at_call 24; go_must (
          clear td1
          refine (rDelete (rWrite HS3.out (by omega) (by omega) (by omega) (by omega) 2 (by omega) (false, ByteArray.empty) (by decide) rfl (by simp) [3, 2, 1, 0] [3, 1, 0] (by simp) (by simp))).mono ?_
          rintro e x4 ⟨rfl, hs, hst⟩
          have HS4 : Hid (RSit x4 a b (Mine w kk) c [3, 2, 1, 0] [3, 1, 0] 5 7 127 2) := hs
          have HK4 : Hid (Keys w x4 c kk 5) := HK3.out.stays hst
          obtain ⟨u2, u4⟩ := HK4.out.at2
          clear hs hst))
      | (have _t := tp2; go_at_call 20; go_must (
          clear tp2
          refine (rPut (rFull HS4.out (by omega) (by omega) 4 (by omega) (true, ⟨#[118]⟩) (by decide) (by simp))).mono ?_
          rintro e x5 ⟨rfl, hs, hst⟩
          have HS5 : Hid (RSit x5 a b (Mine w kk) c [3, 2, 1, 0] [3, 1, 0] 5 7 127 2) := hs
          have HK5 : Hid (Keys w x5 c kk 5) := HK4.out.stays hst
          obtain ⟨u2, u4⟩ := HK5.out.at2
          clear hs hst))
      | (have _t := td2; go_at_call 24; go_must (
          clear td2
          refine (rDelete (rFull HS5.out (by omega) (by omega) 4 (by omega) (false, ByteArray.empty) (by decide) (by simp))).mono ?_
          rintro e x6 ⟨rfl, hs, hst⟩
          have HS6 : Hid (RSit x6 a b (Mine w kk) c [3, 2, 1, 0] [3, 1, 0] 5 7 127 2) := hs
          have HK6 : Hid (Keys w x6 c kk 5) := HK5.out.stays hst
          obtain ⟨u2, u4⟩ := HK6.out.at2
          clear hs hst))
      | (have _t := tp3; go_at_call 20; go_must (
          clear tp3
          refine (rPut (rWrite HS6.out (by omega) (by omega) (by omega) (by omega) 2 (by omega) (true, ⟨#[119]⟩) (by decide) rfl (by simp) [3, 2, 1, 0] [2, 3, 1, 0] (by simp) (by simp))).mono ?_
          rintro e x7 ⟨rfl, hs, hst⟩
          have HS7 : Hid (RSit x7 a b (Mine w kk) c [3, 2, 1, 0] [2, 3, 1, 0] 6 8 128 2) := hs
          have HK7 : Hid (Keys w x7 c kk 5) := HK6.out.stays hst
          obtain ⟨u2, u4⟩ := HK7.out.at2
          clear hs hst))
      | (have _t := td3; go_at_call 24; go_must (
          clear td3
          refine (rDelete (rWrite HS7.out (by omega) (by omega) (by omega) (by omega) 2 (by omega) (false, ByteArray.empty) (by decide) rfl (by simp) [3, 2, 1, 0] [3, 1, 0] (by simp) (by simp))).mono ?_
          rintro e x8 ⟨rfl, hs, hst⟩
          have HS8 : Hid (RSit x8 a b (Mine w kk) c [3, 2, 1, 0] [3, 1, 0] 7 9 129 2) := hs
          have HK8 : Hid (Keys w x8 c kk 5) := HK7.out.stays hst
          obtain ⟨u2, u4⟩ := HK8.out.at2
          clear hs hst))
      | (have _t := tc2; go_at_call 21; go_must (
          clear tc2
          refine (rCommit HS8.out (by omega) (by omega)).mono ?_
          rintro e x9 ⟨rfl, hs, hst⟩
          have HS9 : Hid (RIdle x9 a b (Mine w kk) c [3, 1, 0] 7 9 251 2) := hs
          have HK9 : Hid (Keys w x9 c kk 5) := HK8.out.stays hst
          obtain ⟨u2, u4⟩ := HK9.out.at2
          clear hs hst))
      | (have _t := tb3; go_at_call 19; go_must (
          clear tb3
          refine (rBegin HS9.out (by omega) (by omega)).mono ?_
          rintro e x10 ⟨rfl, hs, hst⟩
          have HS10 : Hid (RSit x10 a b (Mine w kk) c [3, 1, 0] [3, 1, 0] 7 10 251 3) := hs
          have HK10 : Hid (Keys w x10 c kk 5) := HK9.out.stays hst
          obtain ⟨u2, u4⟩ := HK10.out.at2
          clear hs hst))
      | (have _t := tp4; go_at_call 20; go_must (
          clear tp4
          refine (rPut (rWrite HS10.out (by omega) (by omega) (by omega) (by omega) 4 (by omega) (true, ⟨#[118]⟩) (by decide) rfl (by simp) [4, 3, 1, 0] [4, 3, 1, 0] (by simp) (by simp))).mono ?_
          rintro e x11 ⟨rfl, hs, hst⟩
          have HS11 : Hid (RSit x11 a b (Mine w kk) c [4, 3, 1, 0] [4, 3, 1, 0] 8 11 252 3) := hs
          have HK11 : Hid (Keys w x11 c kk 5) := HK10.out.stays hst
          obtain ⟨u2, u4⟩ := HK11.out.at2
          clear hs hst))
      | (have _t := tc3; go_at_call 21; go_must (
          clear tc3
          refine (rCommit HS11.out (by omega) (by omega)).mono ?_
          rintro e x12 ⟨rfl, hs, hst⟩
          have HS12 : Hid (RIdle x12 a b (Mine w kk) c [4, 3, 1, 0] 8 11 374 3) := hs
          have HK12 : Hid (Keys w x12 c kk 5) := HK11.out.stays hst
          obtain ⟨u2, u4⟩ := HK12.out.at2
          clear hs hst))
      | (go_at_call 22; go_must (
          refine (rDump HS12.out).mono ?_
          rintro e x13 ⟨ad, cp, rfl, hb13⟩
          have HB13 : Hid (Keys w x13 c kk 5) := HK12.out.stays hb13
          clear hb13)))
          go_ret
          exact ⟨rfl, HB13.out.2⟩
end Go.Proofs.YtihbngfbcnojcaaGreat
