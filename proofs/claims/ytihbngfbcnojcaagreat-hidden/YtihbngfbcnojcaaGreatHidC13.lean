import Derived.Test.YtihbngfbcnojcaaGreatHidC12
namespace Go.Proofs.YtihbngfbcnojcaaGreat
open Go.RowKit

/-- The log, as it stands on the disk. -/
structure Logd (s : Sv) (lg : List (EntV × Int)) : Prop where
  len : lg.length = s.len
  at' : ∀ (i : Nat) (h : i < lg.length), readW s.D s.ws (34 + i) = sealed s.start lg[i].2 lg[i].1.body ∧ 0 ≤ lg[i].2 ∧ lg[i].2 < 4294967296 ∧ lg[i].1.Fits ∧ (lg[i].1.oldIs = false → lg[i].1.old.size = 0) ∧ (lg[i].1.newIs = false → lg[i].1.new.size = 0)
  rest : ∀ i, s.len ≤ i → i < 400 → readW s.D s.ws (34 + i) = List.replicate 64 (.int .u8 0)
  st : 0 < s.start
theorem Logd.same {s s' : Sv} {lg : List (EntV × Int)} (h : Logd s lg) (h1 : s'.D = s.D) (h2 : s'.ws = s.ws) (h3 : s'.len = s.len) (h4 : s'.start = s.start) : Logd s' lg :=
  ⟨by rw [h3]; exact h.len, by rw [h1, h2, h4]; exact h.at', by rw [h1, h2, h3]; exact h.rest, by rw [h4]; exact h.st⟩
theorem Logd.paged {s s' : Sv} {lg : List (EntV × Int)} (h : Logd s lg) (p : Paged s s') : Logd s' lg := by
  obtain ⟨P, m, rfl, _⟩ := p
  exact h.same rfl rfl rfl rfl
theorem readW_last (D : Array Value) (ws : List (Nat × List Value)) (a : Nat) (S : List Value) : readW D (ws ++ [(a, S)]) a = S := by
  unfold readW
  rw [List.reverse_append]
  simp
theorem Logd.snoc {s s' : Sv} {lg : List (EntV × Int)} (h : Logd s lg) (hl : s.len < 400) (e : EntV) (c : Int) (v' : Value) (h1 : s'.D = s.D.setIfInBounds 27776 v') (h2 : s'.ws = s.ws ++ [(34 + s.len, sealed s.start c e.body)]) (h3 : s'.len = s.len + 1) (h4 : s'.start = s.start)
    (hc : 0 ≤ c ∧ c < 4294967296) (he : e.Fits) (ho : e.oldIs = false → e.old.size = 0) (hn : e.newIs = false → e.new.size = 0) : Logd s' (lg ++ [(e, c)]) := by
  have hlen := h.len
  refine ⟨by rw [List.length_append, h3, hlen]; rfl, fun i hi => ?_, fun i hi hi4 => ?_, by rw [h4]; exact h.st⟩
  · rw [h1, h2, h4]
    rw [List.length_append] at hi
    simp only [List.length_singleton] at hi
    by_cases hlt : i < lg.length
    · rw [List.getElem_append_left hlt, readW_snoc _ _ _ _ _ _ (by omega) (by omega)]
      exact h.at' i hlt
    · have hi' : i = lg.length := by omega
      subst hi'
      rw [List.getElem_append_right (Nat.le_refl _)]
      simp only [Nat.sub_self, List.getElem_cons_zero]
      rw [hlen, readW_last]
      exact ⟨rfl, hc.1, hc.2, he, ho, hn⟩
  · rw [h1, h2, readW_snoc _ _ _ _ _ _ (by omega) (by omega)]
    exact h.rest i (by omega) hi4
theorem Logd.synced {s : Sv} {lg : List (EntV × Int)} (h : Logd s lg) (g : Good s) (hl : s.len < 400) : Logd (synced s) lg := by
  refine ⟨h.len, fun i hi => ?_, fun i hi hi4 => ?_, h.st⟩
  · rw [synced_read s g _ (by have := h.len; omega)]; exact h.at' i hi
  · rw [synced_read s g _ (by omega)]; exact h.rest i hi hi4
theorem newSv_log {D : Array Value} (hD : NewDisk D) (ty : TypeId) (kb vb db mp mc mo : Nat) (made : Option TabV) : Logd (newSv D ty kb vb db mp mc mo made) [] :=
  ⟨rfl, fun i hi => (Nat.not_lt_zero i hi).elim, fun i _ hi4 => hD.read _ (by omega) (by omega), by simp [newSv]⟩

/-- A cell as it is told. -/
def norm (c : Bool × ByteArray) : Bool × ByteArray := if c.1 then (true, c.2) else (false, ByteArray.empty)

/-- A transaction, as the document has it: how it holds keys as read; what it has made of keys. -/
structure TxP where
  read : ByteArray → Int
  wrote : ByteArray → Option (Bool × ByteArray)
  ups : List (ByteArray × (Bool × ByteArray))
def TxP.hold (p : TxP) (key : ByteArray) : Int := if (p.wrote key).isSome then 2 else p.read key
def TxP.new : TxP := ⟨fun _ => 0, fun _ => none, []⟩
/-- What is left of a view when changes are taken back, the last one first. -/
def undoL : List (ByteArray × (Bool × ByteArray)) → (ByteArray → Bool × ByteArray) → ByteArray → Bool × ByteArray
  | [], f => f
  | u :: r, f => undoL r (fun k => if k = u.1 then u.2 else f k)
theorem undoL_congr : ∀ (l : List (ByteArray × (Bool × ByteArray))) (f g : ByteArray → Bool × ByteArray) (key : ByteArray), f key = g key → undoL l f key = undoL l g key
  | [], _, _, _, h => h
  | u :: r, f, g, key, h => undoL_congr r _ _ key (by by_cases he : key = u.1 <;> simp [he, h])
theorem undoL_off : ∀ (l : List (ByteArray × (Bool × ByteArray))) (f : ByteArray → Bool × ByteArray) (key : ByteArray), (∀ u ∈ l, u.1 ≠ key) → undoL l f key = f key
  | [], _, _, _ => rfl
  | u :: r, f, key, h => by
    rw [undoL, undoL_off r _ key (fun v hv => h v (by simp [hv]))]
    rw [if_neg (fun e => h u (by simp) e.symm)]
/-- The entries of a transaction in the log, from number n down: its updates, the last one first. -/
def Chain (lg : List (EntV × Int)) : Nat → List (ByteArray × (Bool × ByteArray)) → Prop
  | n, [] => n = 0
  | n, u :: r => ∃ (e : EntV) (c : Int) (m : Nat), 1 ≤ n ∧ lg[n - 1]? = some (e, c) ∧ e.key = u.1 ∧ (e.oldIs, e.old) = u.2 ∧ e.prev = (m : Int) ∧ m < n ∧ Chain lg m r
theorem Chain.more {lg : List (EntV × Int)} (x : List (EntV × Int)) : ∀ {n : Nat} {l : List (ByteArray × (Bool × ByteArray))}, Chain lg n l → Chain (lg ++ x) n l
  | _, [], h => h
  | n, u :: r, ⟨e, c, m, h1, h2, h3, h4, h5, h6, h7⟩ => ⟨e, c, m, h1, by rw [List.getElem?_append_left (List.getElem?_eq_some_iff.1 h2).1]; exact h2, h3, h4, h5, h6, h7.more x⟩

/-- A store, as the document has it. -/
structure Sp where
  comm : ByteArray → Bool × ByteArray
  tx : Int → Option TxP
  (next acts nopen len : Nat)

/-- The store in memory is that store. -/
structure Rel (k : Bool) (s : Sv) (P : Sp) : Prop where
  tx0 : ∀ t, P.tx t = none → s.tx t = none
  tx1 : ∀ t p, P.tx t = some p → ∃ x, s.tx t = some x ∧ x.last ≤ s.len ∧ ∀ key, holdOf x.H key = p.hold key
  nums : s.begun = P.next ∧ s.acts = P.acts ∧ s.len ≤ P.len
  fut : ∀ t : Int, (P.next : Int) < t → P.tx t = none
  pos : ∀ t p, P.tx t = some p → 0 < t
  cnt : Maps.size s.mo.M = P.nopen
  buck : Buck s
  one : ∀ t u p p' key, P.tx t = some p → P.tx u = some p' → (p.wrote key).isSome = true → (p'.wrote key).isSome = true → t = u
  nrm : (∀ key, norm (P.comm key) = P.comm key) ∧ ∀ t p key c, P.tx t = some p → p.wrote key = some c → norm c = c
  rd : ∀ t p key, P.tx t = some p → p.read key = 0 ∨ p.read key = 1
  ups : ∀ t p, P.tx t = some p → (∀ u ∈ p.ups, (p.wrote u.1).isSome = true) ∧ ∀ key, undoL p.ups (fun k => (p.wrote k).getD (P.comm k)) key = P.comm key
  steal : k = true → (∃ lg, Logd s lg ∧ ∀ t p x, P.tx t = some p → s.tx t = some x → Chain lg x.last p.ups) ∧ (∀ t p key c, P.tx t = some p → p.wrote key = some c → under (s.cont (bucket key)) key = c) ∧ ∀ key, (∀ t p, P.tx t = some p → p.wrote key = none) → under (s.cont (bucket key)) key = P.comm key
  beside : k = false → (∃ md, Made s md) ∧ (∀ t, P.tx t = none → s.mt t = none) ∧ (∀ t p, P.tx t = some p → ∀ key, s.own t key = p.wrote key) ∧ ∀ key, under (s.cont (bucket key)) key = P.comm key

/-- A key of a bucket that is committed, or held as written. -/
def taken (P : Sp) (n : Nat) (key : ByteArray) : Prop := bucket key = n ∧ ((P.comm key).1 = true ∨ ∃ t p, P.tx t = some p ∧ (p.wrote key).isSome = true)

theorem under_in {ps : Pairs} {key : ByteArray} : (under ps key).1 = true ↔ ∃ p ∈ ps, p.1 = key := by
  rcases under_cases ps key with ⟨p, hp, h1, h2⟩ | ⟨h1, h2⟩
  · rw [h2]; exact ⟨fun _ => ⟨p, hp, h1⟩, fun _ => rfl⟩
  · rw [h2]; exact ⟨(fun h => by cases h), fun ⟨p, hp, he⟩ => absurd he (h1 p hp)⟩

theorem Rel.keptTaken {k : Bool} {s : Sv} {P : Sp} (h : Rel k s P) (n : Nat) (hn : n < 8) (key : ByteArray) : keptKey s n key ↔ taken P n key := by
  have hheld : (∃ t x, s.tx t = some x ∧ holdOf x.H key = 2) ↔ ∃ t p, P.tx t = some p ∧ p.hold key = 2 := by
    constructor
    · rintro ⟨t, x, hx, h1⟩
      cases hp : P.tx t with
      | none => rw [h.tx0 t hp] at hx; cases hx
      | some p =>
        obtain ⟨x', hx', _, h2⟩ := h.tx1 t p hp
        rw [hx] at hx'
        simp only [Option.some.injEq] at hx'
        subst hx'
        exact ⟨t, p, hp, by rw [← h2]; exact h1⟩
    · rintro ⟨t, p, hp, h1⟩
      obtain ⟨x, hx, _, h2⟩ := h.tx1 t p hp
      exact ⟨t, x, hx, by rw [h2]; exact h1⟩
  have hin : (∃ p ∈ s.cont n, p.1 = key) → bucket key = n := fun ⟨p, hp, he⟩ => by rw [← he]; exact h.buck n hn p hp
  have hw2 : ∀ t p, P.tx t = some p → (p.hold key = 2 ↔ (p.wrote key).isSome = true) := fun t p hp => by
    unfold TxP.hold
    by_cases hw : (p.wrote key).isSome = true
    · simp [hw]
    · rw [if_neg hw]
      refine ⟨fun h2 => ?_, fun h2 => absurd h2 hw⟩
      rcases h.rd t p key hp with h3 | h3 <;> omega
  unfold keptKey
  rw [hheld]
  unfold taken
  have key2 : bucket key = n → ((∃ p ∈ s.cont n, p.1 = key) ↔ (under (s.cont (bucket key)) key).1 = true) := fun e => by rw [under_in, e]
  constructor
  · rintro (h1 | ⟨h1, t, p, hp, h2⟩)
    · have hb := hin h1
      refine ⟨hb, ?_⟩
      by_cases hw : ∃ t p, P.tx t = some p ∧ (p.wrote key).isSome = true
      · exact .inr hw
      · refine .inl ?_
        have hu := (key2 hb).1 h1
        have hno : ∀ t p, P.tx t = some p → p.wrote key = none := fun t p hp => by
          cases hq : p.wrote key with
          | none => rfl
          | some c => exact absurd ⟨t, p, hp, by rw [hq]; rfl⟩ hw
        cases k with
        | true => rw [(h.steal rfl).2.2 key hno] at hu; exact hu
        | false => rw [(h.beside rfl).2.2.2 key] at hu; exact hu
    · exact ⟨h1, .inr ⟨t, p, hp, (hw2 t p hp).1 h2⟩⟩
  · rintro ⟨hb, h1⟩
    by_cases hw : ∃ t p, P.tx t = some p ∧ (p.wrote key).isSome = true
    · obtain ⟨t, p, hp, h2⟩ := hw
      exact .inr ⟨hb, t, p, hp, (hw2 t p hp).2 h2⟩
    · refine .inl ((key2 hb).2 ?_)
      rcases h1 with h1 | h1
      · have hno : ∀ t p, P.tx t = some p → p.wrote key = none := fun t p hp => by
          cases hq : p.wrote key with
          | none => rfl
          | some c => exact absurd ⟨t, p, hp, by rw [hq]; rfl⟩ hw
        cases k with
        | true => rw [(h.steal rfl).2.2 key hno]; exact h1
        | false => rw [(h.beside rfl).2.2.2 key]; exact h1
      · exact absurd h1 hw

/-- There is room, as the document has it. -/
def HasRoom (P : Sp) (key : ByteArray) : Prop := ∃ L : List ByteArray, L.Nodup ∧ (∀ k, k ∈ L ↔ taken P (bucket key) k) ∧ (key ∈ L ∨ L.length < 4)
theorem Rel.room {k : Bool} {s : Sv} {P : Sp} (h : Rel k s P) (key : ByteArray) : Roomy s key ↔ HasRoom P key := by
  unfold Roomy HasRoom
  have e : ∀ j, keptKey s (bucket key) j ↔ taken P (bucket key) j := fun j => h.keptTaken _ (bucket_lt key) j
  simp only [e]

/-- A live store, as the document has it; what is in X is none of its parts. -/
def Store (w : World) (a : Nat) (k : Bool) (P : Sp) (X : Nat → Prop) (q : Nat) : Prop := ∃ s, Live w a (kindT k) s q ∧ Rel k s P ∧ ∀ x, X x → x < w.heap.size ∧ ∀ tag, s.blk tag ≠ some x
/-- Behind a call: the store is another, and what is in X lies as it lay. -/
def Then (w w' : World) (a : Nat) (k : Bool) (P : Sp) (X : Nat → Prop) (q : Nat) : Prop := Store w' a k P X q ∧ Below 0 w w' ∧ ∀ x, X x → w'.heap[x]? = w.heap[x]?
theorem then_of {w w' : World} {a : Nat} {k : Bool} {s s' : Sv} {P' : Sp} {X : Nat → Prop} {q q' : Nat} (h : Live w a (kindT k) s q) (hX : ∀ x, X x → x < w.heap.size ∧ ∀ tag, s.blk tag ≠ some x) (g : Goes w w' s s') (hh : Held s' q') (hc : Cap s') (hk : s'.kb = s.kb) (hr : Rel k s' P') : Then w w' a k P' X q' := by
  refine ⟨⟨s', h.go g hh hc hk, hr, fun x hx => ?_⟩, g.below, fun x hx => g.off x (hX x hx).1 (hX x hx).2⟩
  obtain ⟨h1, h2⟩ := hX x hx
  refine ⟨by have := g.below.size; omega, fun tag ht => ?_⟩
  rcases g.grown tag x ht with h3 | h3
  · exact h2 tag h3
  · omega
end Go.Proofs.YtihbngfbcnojcaaGreat

namespace Go.Proofs.YtihbngfbcnojcaaGreat
open Go.RowKit

theorem Rel.paged {k : Bool} {s s' : Sv} {P : Sp} (h : Rel k s P) (p : Paged s s') : Rel k s' P := by
  have hl : ∀ lg, (Logd s lg ∧ ∀ t p x, P.tx t = some p → s.tx t = some x → Chain lg x.last p.ups) → (Logd s' lg ∧ ∀ t p x, P.tx t = some p → s'.tx t = some x → Chain lg x.last p.ups) := fun lg hlg => ⟨hlg.1.paged p, by rw [p.same.2.2.2.1]; exact hlg.2⟩
  have hm : ∀ md, Made s md → Made s' md := fun md hmd => p.made hmd
  obtain ⟨Q, m, rfl, _⟩ := p
  exact ⟨h.tx0, h.tx1, h.nums, h.fut, h.pos, h.cnt, h.buck, h.one, h.nrm, h.rd, h.ups, fun hk => ⟨(h.steal hk).1.imp hl, (h.steal hk).2⟩, fun hk => ⟨(h.beside hk).1.imp hm, (h.beside hk).2⟩⟩

/-- A new store, as the document has it. -/
def Sp.empty : Sp := ⟨fun _ => (false, ByteArray.empty), fun _ => none, 0, 0, 0, 0⟩
theorem newStore_store {w w' : World} {a : Nat} {k : Bool} {s : Sv} (h : NewStore w w' a k s) (hb : Below w.heap.size w w') : Store w' a k Sp.empty (fun x => x < w.heap.size) 0 := by
  refine ⟨s, h.live, ?_, fun x hx => ⟨by have := hb.size; omega, fun tag ht => by have := h.new.2 tag x ht; omega⟩⟩
  obtain ⟨D, ty, kb, vb, db, mp, mc, mo, made, hD, rfl, hmd⟩ := h.plain
  refine ⟨fun t _ => rfl, (fun t p hp => by cases hp), ⟨rfl, rfl, Nat.le_refl _⟩, fun t _ => rfl, (fun t p hp => by cases hp), rfl, (fun n _ p hp => by cases hp), (fun t u p p' key hp => by cases hp), ⟨fun key => rfl, (fun t p key c hp => by cases hp)⟩, (fun t p key hp => by cases hp), (fun t p hp => by cases hp), fun hk => ?_, fun hk => ?_⟩
  · exact ⟨⟨[], newSv_log hD _ _ _ _ _ _ _ _, (fun t p x hp => by cases hp)⟩, (fun t p key c hp => by cases hp), fun key _ => rfl⟩
  · subst hk
    obtain ⟨m, rfl⟩ := hmd
    exact ⟨⟨⟨m, 0, .map []⟩, rfl, (fun t m hm => by cases hm), fun t _ zd => Maps.atKey_of_not_has (by simp [Maps.has_eq]) zd, (fun t m hm => by cases hm), Nat.le_refl _⟩, fun t _ => rfl, (fun t p hp => by cases hp), fun key => rfl⟩

/-- A transaction is begun. -/
def Sp.begin (P : Sp) : Sp := { P with tx := fun u => if u = (P.next : Int) + 1 then some TxP.new else P.tx u, next := P.next + 1, acts := P.acts + 1, nopen := P.nopen + 1 }

theorem mo_tidy {w : World} {s : Sv} (h : Lies w s) : Maps.Tidy s.mo.M := by
  have hm : MapOf w 3 s.mo.b s.mo.n s.mo.M := h.comp .mo
  obtain ⟨es, h1, h2, _⟩ := World.ownsMap.entries hm (Maps.int_keyed Tryz.underlying3)
  exact ⟨es, h1, h2⟩

theorem hold_new (key : ByteArray) : holdOf (.map []) key = 0 := by
  unfold holdOf
  rw [Maps.atKey_of_not_has (by simp [Maps.has_eq])]
  rfl

theorem rel_begin {w : World} {k : Bool} {s : Sv} {P : Sp} (L : Lies w s) (g : Good s) (h : Rel k s P) (hb tb : Nat) : Rel k (opened (counted s) ((s.begun : Int) + 1) hb tb) P.begin := by
  have hn := h.nums
  have hnone : P.tx ((P.next : Int) + 1) = none := h.fut _ (by omega)
  have hsn : s.tx ((s.begun : Int) + 1) = none := by rw [hn.1]; exact h.tx0 _ hnone
  have hhas : Maps.has s.mo.M (.int .i64 ((s.begun : Int) + 1)) = false := by rw [open_has g, hsn]; rfl
  refine ⟨fun t ht => ?_, fun t p hp => ?_, ⟨by show s.begun + 1 = P.next + 1; rw [hn.1], by show s.acts + 1 = P.acts + 1; rw [hn.2.1], hn.2.2⟩, fun t ht => ?_, fun t p hp => ?_, ?_, h.buck, fun t u p p' key hp hp' h1 h2 => ?_, ⟨h.nrm.1, fun t p key c hp hc => ?_⟩, fun t p key hp => ?_, fun t p hp => ?_, fun hk => ?_, fun hk => ?_⟩
  · simp only [Sp.begin] at ht
    split at ht
    · cases ht
    · rename_i hne
      show (if t = (s.begun : Int) + 1 then _ else s.tx t) = none
      rw [hn.1, if_neg hne]; exact h.tx0 t ht
  · simp only [Sp.begin] at hp
    split at hp
    · rename_i he
      simp only [Option.some.injEq] at hp
      subst hp
      refine ⟨⟨tb, hb, 0, 0, .map []⟩, ?_, Nat.zero_le _, fun key => ?_⟩
      · show (if t = (s.begun : Int) + 1 then _ else s.tx t) = _
        rw [hn.1, if_pos he]
      · rw [hold_new]; rfl
    · rename_i hne
      obtain ⟨x, h1, h2, h3⟩ := h.tx1 t p hp
      refine ⟨x, ?_, h2, h3⟩
      show (if t = (s.begun : Int) + 1 then _ else s.tx t) = _
      rw [hn.1, if_neg hne]; exact h1
  · have ht' : ((P.next + 1 : Nat) : Int) < t := ht
    simp only [Sp.begin]
    rw [if_neg (by omega)]
    exact h.fut t (by omega)
  · simp only [Sp.begin] at hp
    split at hp
    · omega
    · exact h.pos t p hp
  · show Maps.size (s.mo.M.put _ _) = P.nopen + 1
    rw [Maps.size_put (mo_tidy L), hhas, h.cnt]; rfl
  · simp only [Sp.begin] at hp hp'
    split at hp
    · simp only [Option.some.injEq] at hp; subst hp; cases h1
    · split at hp'
      · simp only [Option.some.injEq] at hp'; subst hp'; cases h2
      · exact h.one t u p p' key hp hp' h1 h2
  · simp only [Sp.begin] at hp
    split at hp
    · simp only [Option.some.injEq] at hp; subst hp; cases hc
    · exact h.nrm.2 t p key c hp hc
  · simp only [Sp.begin] at hp
    split at hp
    · simp only [Option.some.injEq] at hp; subst hp; exact .inl rfl
    · exact h.rd t p key hp
  · simp only [Sp.begin] at hp
    split at hp
    · simp only [Option.some.injEq] at hp; subst hp; exact ⟨fun u hu => (List.not_mem_nil hu).elim, fun key => rfl⟩
    · exact h.ups t p hp
  · obtain ⟨⟨lg, h1, h1c⟩, h2, h3⟩ := h.steal hk
    refine ⟨⟨lg, h1.same rfl rfl rfl rfl, fun t p x hp hx => ?_⟩, fun t p key c hp hc => ?_, fun key hno => h3 key fun t p hp => hno t p ?_⟩
    · have hx' : (if t = (s.begun : Int) + 1 then some ⟨tb, hb, 0, 0, .map []⟩ else s.tx t) = some x := hx
      rw [hn.1] at hx'
      simp only [Sp.begin] at hp
      split at hp
      · rename_i he
        rw [if_pos he] at hx'
        simp only [Option.some.injEq] at hp hx'
        subst hp
        subst hx'
        exact rfl
      · rename_i hne
        rw [if_neg hne] at hx'
        exact h1c t p x hp hx'
    · simp only [Sp.begin] at hp
      split at hp
      · simp only [Option.some.injEq] at hp; subst hp; cases hc
      · exact h2 t p key c hp hc
    · simp only [Sp.begin]
      rw [if_neg (fun e => by rw [e, hnone] at hp; cases hp)]
      exact hp
  · obtain ⟨⟨md, h1⟩, h2, h3, h4⟩ := h.beside hk
    refine ⟨⟨md, h1.made, h1.have', h1.lack, fun t m hm => ⟨(h1.cells t m hm).1, by have := (h1.cells t m hm).2; show m.n ≤ s.acts + 1; omega⟩, by have := h1.num; show md.n ≤ s.acts + 1; omega⟩, fun t ht => ?_, fun t p hp key => ?_, h4⟩
    · simp only [Sp.begin] at ht
      split at ht
      · cases ht
      · exact h2 t ht
    · simp only [Sp.begin] at hp
      split at hp
      · rename_i he
        simp only [Option.some.injEq] at hp
        subst hp
        show (s.mt t).bind _ = none
        rw [h2 t (by rw [he]; exact hnone)]; rfl
      · exact h3 t p hp key

/-- Begin. -/
theorem sBegin {w : World} {a : Nat} {k : Bool} {P : Sp} {X : Nat → Prop} {q : Nat} (S : Store w a k P X q) (h4 : P.nopen < 4) (hac : P.acts < 120) (hnx : P.next ≤ 200) :
    Calls Tryz.prog 19 #[.pointer (some ⟨a, 0, none⟩)] w fun e w' => e = .returned (.tuple #[.int .i64 ((P.next : Int) + 1), .int .i64 0]) ∧ Then w w' a k P.begin X q := by
  obtain ⟨s, L, R, hX⟩ := S
  have hn := R.nums
  have hnone : P.tx ((P.next : Int) + 1) = none := R.fut _ (by omega)
  refine (storeBegin_step L.lies L.good L.held (by omega) (by rw [hn.1]; exact R.tx0 _ hnone) k a L.ca).mono ?_
  rintro e w' ⟨x, y, rfl, hb⟩
  have hc := R.cnt
  rcases hb with ⟨h1, _⟩ | ⟨_, h1, _⟩ | ⟨_, _, h1, hb, tb, h2, h3⟩
  · omega
  · omega
  · rw [hn.1] at h1
    refine ⟨h1, then_of L hX h2 h3 (fun n hn' => ?_) rfl (rel_begin L.lies L.good R hb tb)⟩
    obtain ⟨l, l1, l2⟩ := L.cap n hn'
    refine ⟨l, l1, fun key hk => l2 key ?_⟩
    rcases hk with h5 | ⟨h5, t, x, hx, h6⟩
    · exact .inl h5
    · refine .inr ⟨h5, t, x, ?_, h6⟩
      have hx' : (if t = (s.begun : Int) + 1 then some ⟨tb, hb, 0, 0, .map []⟩ else s.tx t) = some x := hx
      split at hx'
      · simp only [Option.some.injEq] at hx'
        subst hx'
        rw [hold_new] at h6
        omega
      · exact hx'
end Go.Proofs.YtihbngfbcnojcaaGreat

namespace Go.Proofs.YtihbngfbcnojcaaGreat
open Go.RowKit

/-- A transaction makes something of a key. -/
def TxP.put (p : TxP) (P : Sp) (key : ByteArray) (c : Bool × ByteArray) : TxP := { p with wrote := fun k => if k = key then some c else p.wrote k, ups := (key, (p.wrote key).getD (P.comm key)) :: p.ups }
def Sp.write (P : Sp) (t : Int) (p : TxP) (key : ByteArray) (c : Bool × ByteArray) : Sp := { P with tx := fun u => if u = t then some (p.put P key c) else P.tx u, acts := P.acts + 1, len := P.len + 1 }

/-- Nothing stands against a write, as the document has it. -/
structure MayPut (P : Sp) (t : Int) (p : TxP) (key : ByteArray) (c : Bool × ByteArray) : Prop where
  tx : P.tx t = some p
  ksz : 1 ≤ key.size ∧ key.size ≤ 8
  val : c.2.size ≤ 12
  nrm : norm c = c
  free : ∀ u p', P.tx u = some p' → u ≠ t → p'.hold key = 0
  acts : P.acts < 120
  room : HasRoom P key

theorem MayPut.wfree {k : Bool} {s : Sv} {P : Sp} {t : Int} {p : TxP} {key : ByteArray} {c : Bool × ByteArray} (m : MayPut P t p key c) (h : Rel k s P) : WFree s t key c.2 := by
  obtain ⟨x, hx, _, _⟩ := h.tx1 t p m.tx
  refine ⟨?_, m.val, fun u y hy hu => ?_, by rw [h.nums.2.1]; exact m.acts, (h.room key).2 m.room⟩
  · have := m.ksz
    unfold nameErr
    rw [hx, if_neg (by simp), if_neg (by omega)]
  · cases hp : P.tx u with
    | none => rw [h.tx0 u hp] at hy; cases hy
    | some p' =>
      obtain ⟨y', hy', _, h3⟩ := h.tx1 u p' hp
      rw [hy] at hy'
      simp only [Option.some.injEq] at hy'
      subst hy'
      rw [h3]; exact m.free u p' hp hu

theorem hold_put {k : Bool} {s : Sv} {P : Sp} {t : Int} {p : TxP} {q : Nat} (h : Rel k s P) (hh : Held s q) (hp : P.tx t = some p) {x : TxE} (hx : s.tx t = some x) (key : ByteArray) (c : Bool × ByteArray) (k' : ByteArray) : holdOf (x.H.put (lit key) (.held (.int .i64 (max (holdOf x.H key) 2)))) k' = (p.put P key c).hold k' := by
  obtain ⟨_, h2, h3⟩ := hh t x hx
  obtain ⟨x', hx', _, h4⟩ := h.tx1 t p hp
  rw [hx] at hx'
  simp only [Option.some.injEq] at hx'
  subst hx'
  rw [holdOf_put h3]
  by_cases he : k' = key
  · have := (holdOf_at h2 key).2.2
    rw [if_pos he]
    unfold TxP.hold TxP.put
    simp only [he, if_true, Option.isSome_some]
    omega
  · rw [if_neg he, h4]
    unfold TxP.hold TxP.put
    simp only [he, if_false]

/-- What both kinds have in common. -/
theorem rel_write_any {k : Bool} {s s' : Sv} {P : Sp} {t : Int} {p : TxP} {key : ByteArray} {c : Bool × ByteArray} {q : Nat} (h : Rel k s P) (hh : Held s q) (m : MayPut P t p key c) (x : TxE) (hx : s.tx t = some x)
    (htx : ∃ x', s'.tx = (fun u => if u = t then some x' else s.tx u) ∧ x'.last ≤ s'.len ∧ x'.H = x.H.put (lit key) (.held (.int .i64 (max (holdOf x.H key) 2)))) (hlen : s.len ≤ s'.len ∧ s'.len ≤ s.len + 1) (hnum : s'.begun = s.begun ∧ s'.acts = s.acts + 1) (hmo : s'.mo = s.mo) (hbk : Buck s')
    (hst : k = true → (∃ lg, Logd s' lg ∧ ∀ u p' y, (P.write t p key c).tx u = some p' → s'.tx u = some y → Chain lg y.last p'.ups) ∧ (∀ u p' k' c', (P.write t p key c).tx u = some p' → p'.wrote k' = some c' → under (s'.cont (bucket k')) k' = c') ∧ ∀ k', (∀ u p', (P.write t p key c).tx u = some p' → p'.wrote k' = none) → under (s'.cont (bucket k')) k' = P.comm k')
    (hbs : k = false → (∃ md, Made s' md) ∧ (∀ u, (P.write t p key c).tx u = none → s'.mt u = none) ∧ (∀ u p', (P.write t p key c).tx u = some p' → ∀ k', s'.own u k' = p'.wrote k') ∧ ∀ k', under (s'.cont (bucket k')) k' = P.comm k') : Rel k s' (P.write t p key c) := by
  obtain ⟨x', htx', hlast, hH⟩ := htx
  have hsome : ∀ u p', (P.write t p key c).tx u = some p' → (u = t ∧ p' = p.put P key c) ∨ (u ≠ t ∧ P.tx u = some p') := fun u p' hp' => by
    simp only [Sp.write] at hp'
    split at hp'
    · rename_i he
      simp only [Option.some.injEq] at hp'
      exact .inl ⟨he, hp'.symm⟩
    · rename_i he
      exact .inr ⟨he, hp'⟩
  have hwr : ∀ u p', u ≠ t → P.tx u = some p' → (p'.wrote key).isSome = false := fun u p' hu hp' => by
    have h0 := m.free u p' hp' hu
    unfold TxP.hold at h0
    split at h0
    · omega
    · rename_i hns; simpa using hns
  refine ⟨fun u hu => ?_, fun u p' hp' => ?_, ⟨by rw [hnum.1]; exact h.nums.1, by rw [hnum.2, h.nums.2.1]; rfl, by have := h.nums.2.2; show s'.len ≤ P.len + 1; omega⟩, fun u hu => ?_, fun u p' hp' => ?_, by rw [hmo]; exact h.cnt, hbk, fun u1 u2 p1 p2 k' hp1 hp2 h1 h2 => ?_, ⟨h.nrm.1, fun u p' k' c' hp' hc' => ?_⟩, fun u p' k' hp' => ?_, fun u p' hp' => ?_, hst, hbs⟩
  · simp only [Sp.write] at hu
    split at hu
    · cases hu
    · rename_i hne
      rw [htx']
      show (if u = t then _ else s.tx u) = none
      rw [if_neg hne]; exact h.tx0 u hu
  · rcases hsome u p' hp' with ⟨rfl, rfl⟩ | ⟨hu, hp''⟩
    · refine ⟨x', by rw [htx']; simp, hlast, fun k' => ?_⟩
      rw [hH]; exact hold_put h hh m.tx hx key c k'
    · obtain ⟨y, h1, h2, h3⟩ := h.tx1 u p' hp''
      exact ⟨y, by rw [htx']; show (if u = t then _ else s.tx u) = _; rw [if_neg hu]; exact h1, by omega, h3⟩
  · simp only [Sp.write]
    have hu' : (P.next : Int) < u := hu
    rw [if_neg (fun e => by have := h.fut u hu'; rw [e, m.tx] at this; cases this)]
    exact h.fut u hu'
  · rcases hsome u p' hp' with ⟨rfl, _⟩ | ⟨_, hp''⟩
    · exact h.pos u p m.tx
    · exact h.pos u p' hp''
  · rcases hsome u1 p1 hp1 with ⟨rfl, rfl⟩ | ⟨hu1, hp1'⟩
    · rcases hsome u2 p2 hp2 with ⟨rfl, rfl⟩ | ⟨hu2, hp2'⟩
      · rfl
      · by_cases he : k' = key
        · subst he; rw [hwr u2 p2 hu2 hp2'] at h2; cases h2
        · simp only [TxP.put, he, if_false] at h1
          exact h.one u1 u2 p p2 k' m.tx hp2' h1 h2
    · rcases hsome u2 p2 hp2 with ⟨rfl, rfl⟩ | ⟨hu2, hp2'⟩
      · by_cases he : k' = key
        · subst he; rw [hwr u1 p1 hu1 hp1'] at h1; cases h1
        · simp only [TxP.put, he, if_false] at h2
          exact h.one u1 u2 p1 p k' hp1' m.tx h1 h2
      · exact h.one u1 u2 p1 p2 k' hp1' hp2' h1 h2
  · rcases hsome u p' hp' with ⟨rfl, rfl⟩ | ⟨_, hp''⟩
    · by_cases he : k' = key
      · simp only [TxP.put, he, if_true, Option.some.injEq] at hc'
        rw [← hc']; exact m.nrm
      · simp only [TxP.put, he, if_false] at hc'
        exact h.nrm.2 u p k' c' m.tx hc'
    · exact h.nrm.2 u p' k' c' hp'' hc'
  · rcases hsome u p' hp' with ⟨rfl, rfl⟩ | ⟨_, hp''⟩
    · exact h.rd u p k' m.tx
    · exact h.rd u p' k' hp''
  · rcases hsome u p' hp' with ⟨rfl, rfl⟩ | ⟨_, hp''⟩
    · obtain ⟨h1, h2⟩ := h.ups u p m.tx
      refine ⟨fun v hv => ?_, fun k' => ?_⟩
      · by_cases he : v.1 = key
        · simp [TxP.put, he]
        · have hv' : v ∈ (key, (p.wrote key).getD (P.comm key)) :: p.ups := hv
          rcases List.mem_cons.1 hv' with e | hv2
          · rw [e] at he; exact absurd rfl he
          · simp only [TxP.put, he, if_false]; exact h1 v hv2
      · refine Eq.trans ?_ (h2 k')
        show undoL p.ups (fun k => if k = key then (p.wrote key).getD (P.comm key) else ((p.put P key c).wrote k).getD (P.comm k)) k' = _
        refine undoL_congr _ _ _ _ ?_
        by_cases he : k' = key
        · simp [he]
        · simp [TxP.put, he]
    · exact h.ups u p' hp''

theorem cap_write {s s' : Sv} {key : ByteArray} (hc : Cap s) (hr : Roomy s key) (hk : ∀ n k, n < 8 → keptKey s' n k → keptKey s n k ∨ (k = key ∧ n = bucket key)) : Cap s' := fun n hn => by
  obtain ⟨l, l1, l2⟩ := hc n hn
  by_cases hb : n = bucket key
  · obtain ⟨L, m1, m2, m3⟩ := hr
    rcases m3 with m3 | m3
    · refine ⟨l, l1, fun k hk' => ?_⟩
      rcases hk n k hn hk' with h1 | ⟨rfl, _⟩
      · exact l2 k h1
      · exact l2 _ (by rw [hb]; exact (m2 _).1 m3)
    · refine ⟨key :: L, by simp; omega, fun k hk' => ?_⟩
      rcases hk n k hn hk' with h1 | ⟨rfl, _⟩
      · exact List.mem_cons_of_mem _ ((m2 k).2 (by rw [← hb]; exact h1))
      · simp
  · refine ⟨l, l1, fun k hk' => ?_⟩
    rcases hk n k hn hk' with h1 | ⟨_, h1⟩
    · exact l2 k h1
    · exact absurd h1 hb
end Go.Proofs.YtihbngfbcnojcaaGreat

namespace Go.Proofs.YtihbngfbcnojcaaGreat
open Go.RowKit

/-- A write of a store that changes its pages at once. -/
theorem write_steal {w : World} {a : Nat} {P : Sp} {X : Nat → Prop} {q : Nat} (S : Store w a true P X q) (hq : q ≤ 99999) (hlen : P.len ≤ 390) (t : Int) (ht : t < 256) (p : TxP) (key : ByteArray) (c : Bool × ByteArray) (m : MayPut P t p key c) :
    Calls Tryz.prog 42 #[.pointer (some ⟨a, 0, none⟩), .int .i64 t, .string key, .agg #[.bool c.1, .string c.2]] w fun e w' => ∃ r, e = .returned (.int .i64 r) ∧ r = 0 ∧ Then w w' a true (P.write t p key c) X (q + 1) := by
  obtain ⟨s, L, R, hX⟩ := S
  obtain ⟨x, hx, hlast, hhold⟩ := R.tx1 t p m.tx
  have hpos := R.pos t p m.tx
  have hn := R.nums
  have hf := m.wfree R
  refine (storeWrite_steal L hq (by omega) t ⟨by omega, ht⟩ x hx hlast key m.ksz.2 c.1 c.2 hf).mono ?_
  rintro e w' ⟨h1, s1, s', hp, hw, hg, hh⟩
  have R1 := R.paged hp
  have hh1 := hp.held L.held
  have hcap1 := hp.cap L.cap
  have hroom1 := (hp.roomy key).2 hf.room
  have hgood1 : ∀ n, n < 8 → RisingAt (s1.cont n) := fun n hn' => by rw [hp.same.2.2.1]; exact (L.good.rise n hn').1
  have hct : 0 ≤ s1.count ∧ s1.count ≤ 100 + s1.len + 1000 * s1.acts ∧ s1.acts ≤ 120 ∧ s1.len ≤ 391 := by
    obtain ⟨Q, mm, rfl, _⟩ := hp
    exact ⟨L.good.ct.1, L.good.ct.2, L.good.ac, L.good.ln⟩
  have hx1 : s1.tx t = some x := by rw [hp.same.2.2.2.1]; exact hx
  have hkb : s1.kb = s.kb := hp.same.1
  have hund : ∀ k', under (s'.cont (bucket k')) k' = if k' = key then c else under (s1.cont (bucket k')) k' := fun k' => by
    rw [hw.cont]
    by_cases hb : bucket k' = bucket key
    · simp only [hb, if_true]
      rw [under_withL (hgood1 _ (bucket_lt key))]
      by_cases he : k' = key
      · rw [if_pos he, if_pos he]; exact m.nrm
      · rw [if_neg he, if_neg he]
    · simp only [hb, if_false]
      rw [if_neg (fun e => hb (by rw [e]))]
  have hwr : ∀ u p', u ≠ t → P.tx u = some p' → (p'.wrote key).isSome = false := fun u p' hu hp' => by
    have h0 := m.free u p' hp' hu
    unfold TxP.hold at h0
    split at h0
    · omega
    · rename_i hns; simpa using hns
  refine ⟨0, h1, rfl, then_of L hX hg hh ?_ (hw.same.1.trans hkb) ?_⟩
  · refine cap_write hcap1 hroom1 (fun n k hn' hk => ?_)
    rcases hk with ⟨p', hp', rfl⟩ | ⟨hb, u, y, hy, h2⟩
    · rw [hw.cont] at hp'
      by_cases hb : n = bucket key
      · simp only [hb, if_true] at hp'
        rw [← hb] at hp'
        rcases withL_mem (hgood1 n hn') _ _ _ hp' with h3 | ⟨_, h3⟩
        · exact .inl (.inl ⟨p', h3, rfl⟩)
        · exact .inr ⟨by rw [h3], hb⟩
      · simp only [hb, if_false] at hp'
        exact .inl (.inl ⟨p', hp', rfl⟩)
    · rw [hw.tx] at hy
      by_cases hu : u = t
      · simp only [hu, if_true, Option.some.injEq] at hy
        subst hy
        have h4 : holdOf (x.H.put (lit key) (.held (.int .i64 (max (holdOf x.H key) 2)))) k = 2 := h2
        rw [holdOf_put (hh1 t x hx1).2.2] at h4
        by_cases he : k = key
        · exact .inr ⟨he, by rw [← he]; exact hb.symm⟩
        · rw [if_neg he] at h4
          exact .inl (.inr ⟨hb, t, x, hx1, h4⟩)
      · simp only [hu, if_false] at hy
        exact .inl (.inr ⟨hb, u, y, hy, h2⟩)
  · refine rel_write_any R1 hh1 m x hx1 ⟨_, hw.tx, by rw [hw.nums.1]; exact Nat.le_refl _, rfl⟩ (by rw [hw.nums.1]; omega) ⟨hw.nums.2.2.2.2, hw.acts⟩ hw.same.2.2.2.2.1 (fun n hn' p' hp' => ?_) (fun _ => ?_) (fun h => by cases h)
    · rw [hw.cont] at hp'
      by_cases hb : n = bucket key
      · simp only [hb, if_true] at hp'
        rw [← hb] at hp'
        rcases withL_mem (hgood1 n hn') _ _ _ hp' with h3 | ⟨_, h3⟩
        · exact R1.buck n hn' p' h3
        · rw [h3, hb]
      · simp only [hb, if_false] at hp'
        exact R1.buck n hn' p' hp'
    · obtain ⟨⟨lg, h2, h2c⟩, h3, h4⟩ := R1.steal rfl
      have hold : under (s1.cont (bucket key)) key = (p.wrote key).getD (P.comm key) := by
        cases hw0 : p.wrote key with
        | some c0 => exact h3 t p key c0 m.tx hw0
        | none =>
          refine h4 key fun u p' hp' => ?_
          by_cases hu : u = t
          · rw [hu, m.tx] at hp'
            simp only [Option.some.injEq] at hp'
            rw [← hp']; exact hw0
          · have := hwr u p' hu hp'
            cases hq0 : p'.wrote key with
            | none => rfl
            | some c1 => rw [hq0] at this; cases this
      have hun := under_fits (L.good.rise _ (bucket_lt key)).2.2 key
      rw [← hp.same.2.2.1] at hun
      obtain ⟨e0, he0⟩ : ∃ e0 : EntV, e0 = ⟨1, t, (x.last : Int), 0, key, (under (s1.cont (bucket key)) key).1, (under (s1.cont (bucket key)) key).2, c.1, c.2⟩ := ⟨_, rfl⟩
      have hws := hw.ws
      rw [← he0] at hws
      have hfit0 : e0.Fits := by
        rw [he0]
        exact ⟨by simp, ⟨by simp only; omega, ht⟩, ⟨by simp only; omega, by simp only; have : x.last ≤ s.len := hlast; have := L.good.ln; omega⟩, by simp, m.ksz.2, hun, m.val⟩
      have ho0 : e0.oldIs = false → e0.old.size = 0 := by
        rw [he0]
        intro h0
        rcases under_cases (s1.cont (bucket key)) key with ⟨_, _, _, e1⟩ | ⟨_, e1⟩
        · simp only [e1] at h0; cases h0
        · simp only [e1]; rfl
      have hn0 : e0.newIs = false → e0.new.size = 0 := by
        rw [he0]
        intro h0
        have hc0 : c.1 = false := h0
        have := m.nrm
        unfold norm at this
        rw [hc0] at this
        show c.2.size = 0
        rw [← this]; rfl
      have hk0 : e0.key = key ∧ (e0.oldIs, e0.old) = under (s1.cont (bucket key)) key ∧ e0.prev = (x.last : Int) := by rw [he0]; exact ⟨rfl, rfl, rfl⟩
      have hL := h2.snoc (by omega) e0 (s1.count + 1) _ hw.D hws hw.nums.1 hw.nums.2.2.1 (by omega) hfit0 ho0 hn0
      clear he0 hws
      refine ⟨⟨lg ++ [(e0, s1.count + 1)], hL, fun u p' y hp' hy => ?_⟩, fun u p' k' c' hp' hc' => ?_, fun k' hno => ?_⟩
      · rw [hw.tx] at hy
        simp only [Sp.write] at hp'
        by_cases hu : u = t
        · rw [if_pos hu] at hp'
          simp only [hu, if_true, Option.some.injEq] at hy hp'
          subst hp'
          subst hy
          refine ⟨e0, s1.count + 1, x.last, by show 1 ≤ s1.len + 1; omega, ?_, hk0.1, ?_, hk0.2.2, ?_, (h2c t p x m.tx hx1).more _⟩
          · show (lg ++ [_])[s1.len + 1 - 1]? = _
            rw [Nat.add_sub_cancel, ← h2.len, List.getElem?_append_right (Nat.le_refl _), Nat.sub_self]
            rfl
          · exact hk0.2.1.trans hold
          · show x.last < s1.len + 1
            have hl1 : s1.len = s.len := by obtain ⟨Q, mm, rfl, _⟩ := hp; rfl
            omega
        · rw [if_neg hu] at hp'
          simp only [hu, if_false] at hy
          exact (h2c u p' y hp' hy).more _
      · rw [hund]
        simp only [Sp.write] at hp'
        split at hp'
        · simp only [Option.some.injEq] at hp'
          subst hp'
          by_cases he : k' = key
          · simp only [TxP.put, he, if_true, Option.some.injEq] at hc'
            rw [if_pos he, hc']
          · simp only [TxP.put, he, if_false] at hc'
            rw [if_neg he]; exact h3 t p k' c' m.tx hc'
        · rename_i hu
          have he : k' ≠ key := fun e => by
            have := hwr u p' hu hp'
            rw [← e, hc'] at this
            cases this
          rw [if_neg he]; exact h3 u p' k' c' hp' hc'
      · have he : k' ≠ key := fun e => by
          have := hno t (p.put P key c) (by simp [Sp.write])
          simp [TxP.put, e] at this
        rw [hund, if_neg he]
        refine h4 k' fun u p' hp' => ?_
        by_cases hu : u = t
        · have e1 := hno t (p.put P key c) (by simp [Sp.write])
          rw [hu, m.tx] at hp'
          simp only [Option.some.injEq] at hp'
          subst hp'
          simpa [TxP.put, he] using e1
        · exact hno u p' (by simp only [Sp.write]; rw [if_neg hu]; exact hp')
end Go.Proofs.YtihbngfbcnojcaaGreat

namespace Go.Proofs.YtihbngfbcnojcaaGreat
open Go.RowKit

theorem wroteIn_put {M : DataW Value} (hm : Maps.IsMap M) (k key : ByteArray) (is : Bool) (v : ByteArray) : wroteIn (M.put (lit k) (.held (.agg #[.bool is, .string v]))) key = if key = k then some (is, v) else wroteIn M key := by
  by_cases hs : key = k
  · subst hs
    rw [if_pos rfl]
    unfold wroteIn
    rw [Maps.atKey_put_same hm (by simp [WideAt.IsKeyLit])]
    rfl
  · rw [if_neg hs]
    unfold wroteIn
    rw [Maps.atKey_put_other (fun e => hs (lit_inj e))]
theorem wroteIn_empty (key : ByteArray) : wroteIn (.map []) key = none := by
  unfold wroteIn
  rw [Maps.atKey_of_not_has (by simp [Maps.has_eq])]
  rfl

/-- What a write beside the pages leaves. -/
structure Besides (s s' : Sv) (t : Int) (x : TxE) (key : ByteArray) (c : Bool × ByteArray) : Prop where
  cont : s'.cont = s.cont
  tx : s'.tx = fun u => if u = t then some { x with nH := x.nH + 1, H := x.H.put (lit key) (.held (.int .i64 (max (holdOf x.H key) 2))) } else s.tx u
  nums : s'.len = s.len ∧ s'.begun = s.begun ∧ s'.acts = s.acts + 1 ∧ s'.kb = s.kb ∧ s'.mo = s.mo
  made : ∃ md, Made s' md
  own : ∀ u k', s'.own u k' = if u = t ∧ k' = key then some c else s.own u k'
  mt : ∀ u, u ≠ t → s'.mt u = s.mt u

theorem besides_of {w : World} {s s' : Sv} {md : TabV} {t : Int} {x : TxE} {key : ByteArray} {c : Bool × ByteArray} (L : Lies w s) (h : WroteBeside s s' md t x key c.1 c.2) : Besides s s' t x key c := by
  rcases h with ⟨m, hm, rfl, h2⟩ | ⟨hm, nb, rfl, h2⟩
  · have hM : Maps.IsMap m.M := World.ownsMap.isMap (L.comp (.madeOf t) m hm)
    refine ⟨rfl, rfl, ⟨rfl, rfl, rfl, rfl, rfl⟩, ⟨_, h2⟩, fun u k' => ?_, fun u hu => ?_⟩
    · show (if u = t then some _ else s.mt u).bind _ = _
      by_cases hu : u = t
      · subst hu
        simp only [if_true, Option.bind_some, true_and]
        rw [wroteIn_put hM]
        by_cases he : k' = key
        · rw [if_pos he, if_pos he]
        · rw [if_neg he, if_neg he]
          simp only [Sv.own, hm, Option.bind_some]
      · simp only [hu, if_false, false_and]; rfl
    · show (if u = t then some _ else s.mt u) = _
      rw [if_neg hu]
  · refine ⟨rfl, rfl, ⟨rfl, rfl, rfl, rfl, rfl⟩, ⟨_, h2⟩, fun u k' => ?_, fun u hu => ?_⟩
    · show (if u = t then some _ else (if u = t then some _ else s.mt u)).bind _ = _
      by_cases hu : u = t
      · subst hu
        simp only [if_true, Option.bind_some, true_and]
        rw [wroteIn_put Maps.isMap_empty, wroteIn_empty]
        by_cases he : k' = key
        · rw [if_pos he, if_pos he]
        · rw [if_neg he, if_neg he]
          simp only [Sv.own, hm, Option.bind_none]
      · simp only [hu, if_false, false_and]; rfl
    · show (if u = t then some _ else (if u = t then some _ else s.mt u)) = _
      rw [if_neg hu, if_neg hu]

/-- A write of a store that keeps it beside the pages. -/
theorem write_beside {w : World} {a : Nat} {P : Sp} {X : Nat → Prop} {q : Nat} (S : Store w a false P X q) (hq : q ≤ 99999) (t : Int) (ht : t < 256) (p : TxP) (key : ByteArray) (c : Bool × ByteArray) (m : MayPut P t p key c) :
    Calls Tryz.prog 42 #[.pointer (some ⟨a, 0, none⟩), .int .i64 t, .string key, .agg #[.bool c.1, .string c.2]] w fun e w' => ∃ r, e = .returned (.int .i64 r) ∧ r = 0 ∧ Then w w' a false (P.write t p key c) X (q + 1) := by
  obtain ⟨s, L, R, hX⟩ := S
  obtain ⟨x, hx, hlast, hhold⟩ := R.tx1 t p m.tx
  have hpos := R.pos t p m.tx
  have hf := m.wfree R
  obtain ⟨⟨md, hmd⟩, b2, b3, b4⟩ := R.beside rfl
  refine (storeWrite_noSteal L hmd hq t ⟨by omega, by omega⟩ x hx key m.ksz.2 c.1 c.2 hf).mono ?_
  rintro e w' ⟨h1, s1, s', hp, hw, hg, hh⟩
  have hB : Besides s s' t x key c := by
    have hb1 : ∀ k, s1.blk (.madeOf k) = s.blk (.madeOf k) := fun k => by obtain ⟨Q, mm, rfl, _⟩ := hp; rfl
    obtain ⟨Q, mm, rfl, hmm⟩ := hp
    have L1 : WroteBeside ({ s with pgs := Q, mp := mm } : Sv) s' md t x key c.1 c.2 := hw
    rcases L1 with ⟨m', hm', rfl, h2⟩ | ⟨hm', nb, rfl, h2⟩
    · have hM : Maps.IsMap m'.M := World.ownsMap.isMap (L.lies.comp (.madeOf t) m' hm')
      refine ⟨rfl, rfl, ⟨rfl, rfl, rfl, rfl, rfl⟩, ⟨_, h2⟩, fun u k' => ?_, fun u hu => ?_⟩
      · show (if u = t then some _ else s.mt u).bind _ = _
        by_cases hu : u = t
        · subst hu
          simp only [if_true, Option.bind_some, true_and]
          rw [wroteIn_put hM]
          by_cases he : k' = key
          · rw [if_pos he, if_pos he]
          · rw [if_neg he, if_neg he]
            have hm2 : s.mt u = some m' := hm'
            simp only [Sv.own, hm2, Option.bind_some]
        · simp only [hu, if_false, false_and]; rfl
      · show (if u = t then some _ else s.mt u) = _
        rw [if_neg hu]
    · refine ⟨rfl, rfl, ⟨rfl, rfl, rfl, rfl, rfl⟩, ⟨_, h2⟩, fun u k' => ?_, fun u hu => ?_⟩
      · show (if u = t then some _ else (if u = t then some _ else s.mt u)).bind _ = _
        by_cases hu : u = t
        · subst hu
          simp only [if_true, Option.bind_some, true_and]
          rw [wroteIn_put Maps.isMap_empty, wroteIn_empty]
          by_cases he : k' = key
          · rw [if_pos he, if_pos he]
          · rw [if_neg he, if_neg he]
            have hm2 : s.mt u = none := hm'
            simp only [Sv.own, hm2, Option.bind_none]
        · simp only [hu, if_false, false_and]; rfl
      · show (if u = t then some _ else (if u = t then some _ else s.mt u)) = _
        rw [if_neg hu, if_neg hu]
  refine ⟨0, h1, rfl, then_of L hX hg hh ?_ hB.nums.2.2.2.1 ?_⟩
  · refine cap_write L.cap hf.room (fun n k hn' hk => ?_)
    rcases hk with ⟨p', hp', rfl⟩ | ⟨hb, u, y, hy, h2⟩
    · rw [hB.cont] at hp'
      exact .inl (.inl ⟨p', hp', rfl⟩)
    · rw [hB.tx] at hy
      by_cases hu : u = t
      · simp only [hu, if_true, Option.some.injEq] at hy
        subst hy
        have h4 : holdOf (x.H.put (lit key) (.held (.int .i64 (max (holdOf x.H key) 2)))) k = 2 := h2
        rw [holdOf_put (L.held t x hx).2.2] at h4
        by_cases he : k = key
        · exact .inr ⟨he, by rw [← he]; exact hb.symm⟩
        · rw [if_neg he] at h4
          exact .inl (.inr ⟨hb, t, x, hx, h4⟩)
      · simp only [hu, if_false] at hy
        exact .inl (.inr ⟨hb, u, y, hy, h2⟩)
  · refine rel_write_any R L.held m x hx ⟨_, hB.tx, by rw [hB.nums.1]; exact hlast, rfl⟩ (by rw [hB.nums.1]; omega) ⟨hB.nums.2.1, hB.nums.2.2.1⟩ hB.nums.2.2.2.2 (fun n hn' p' hp' => by rw [hB.cont] at hp'; exact R.buck n hn' p' hp') (fun h => by cases h) (fun _ => ⟨hB.made, fun u hu => ?_, fun u p' hp' k' => ?_, fun k' => by rw [hB.cont]; exact b4 k'⟩)
    · simp only [Sp.write] at hu
      split at hu
      · cases hu
      · rename_i hne
        rw [hB.mt u hne]; exact b2 u hu
    · rw [hB.own]
      simp only [Sp.write] at hp'
      split at hp'
      · rename_i he
        simp only [Option.some.injEq] at hp'
        subst hp'
        subst he
        simp only [true_and, TxP.put]
        by_cases hk : k' = key
        · rw [if_pos hk, if_pos hk]
        · rw [if_neg hk, if_neg hk]; exact b3 u p m.tx k'
      · rename_i hne
        rw [if_neg (fun h => hne h.1)]; exact b3 u p' hp' k'
end Go.Proofs.YtihbngfbcnojcaaGreat
