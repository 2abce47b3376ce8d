import Derived.Test.YtihbngfbcnojcaaGreatRows
import Derived.Test.YtihbngfbcnojcaaGreatNewsF
import Derived.ProofKit
import Derived.Deep.Slices
namespace Go.Proofs.YtihbngfbcnojcaaGreat
open Go.RowKit Go.ChangeShapes Go.WideShapes Go.ChangeAt Go.Deep

set_option maxRecDepth 100000 in
set_option maxHeartbeats 2000000 in
theorem upTo_empty (ad : Option Addr) (cap : Nat) (a b c : Int) (w : World) :
    Calls Tryz.prog 16 #[.slice ad 0 cap, .int .i64 a, .int .i64 b, .int .i64 c] w fun e w' => e = .returned (.int .i64 (-1)) ∧ Below w.heap.size w w' := by
  go_enter Tryz.func16, Tryz.ntmps16
  go_wp2
  go_loopw [10] (fun i wr => i = .int .i64 0 ∧ Below w.heap.size w wr) (fun _ _ => 0)
  case atStart => exact ⟨rfl, (Below.refl _ _).alloc (Nat.le_refl _) _⟩
  case round =>
    obtain ⟨rfl, hb⟩ := hrel
    go_wp2
    go_ret
    exact ⟨rfl, hb⟩

theorem nine {α : Type} {l : List α} (h : l.length = 9) : ∃ a b c d e f g i j, l = [a, b, c, d, e, f, g, i, j] := by
  match l, h with
  | [a, b, c, d, e, f, g, i, j], _ => exact ⟨a, b, c, d, e, f, g, i, j, rfl⟩

/-- The script that a slice of type []Op holds. -/
theorem script_of {H : Type} {enc : TypeId × Value → H} {W : World} {base : Nat} {spare : Nat → Bool} {held : Bool} {a : Addr} {len n : Nat} {D : Nat → DataW H} {Pl : Nat → List MemPlace}
    (h : ∀ i, i < len → ∃ cs', W.cells? base (a.add (i * Tryz.prog.cellsOf 80)) (Tryz.prog.cellsOf 80) = some cs' ∧ DataW.trod enc Tryz.prog W base spare held n 80 cs' = some (D i, Pl i)) (h0 : 0 < len) :
    a.spot = none ∧ ScriptAt W a.block a.off len := by
  have ce : Tryz.prog.cellsOf 80 = 9 := by kernel_rfl
  have c3 : Tryz.prog.cellsOf 3 = 1 := by kernel_rfl
  have c9 : Tryz.prog.cellsOf 9 = 1 := by kernel_rfl
  have c53 : Tryz.prog.cellsOf 53 = 1 := by kernel_rfl
  rw [ce] at h
  have hsp : a.spot = none := by
    obtain ⟨cs', h1, _⟩ := h 0 h0
    obtain ⟨_, hl, hc⟩ := World.cells?_some h1
    have := hc 0 (by omega)
    rw [List.getElem?_eq_getElem (by omega)] at this
    simp [Addr.add] at this
    unfold World.cell? at this
    split at this
    · split at this
      · cases this
      · rename_i hh; simpa using hh
    · cases this
  refine ⟨hsp, fun i hi => ?_⟩
  obtain ⟨cs', h1, h2⟩ := h i hi
  obtain ⟨_, hl, hc⟩ := World.cells?_some h1
  obtain ⟨xs, k, _, _, _, hxl, hf⟩ := DataW.trod_struct Tryz.underlying80 h2
  obtain ⟨v0, v1, v2, v3, v4, v5, v6, v7, v8, rfl⟩ := nine hl
  obtain ⟨x0, x1, x2, x3, x4, x5, x6, x7, x8, rfl⟩ := nine (l := xs) hxl
  have g0 := hf 0 _ rfl
  have g1 := hf 1 _ rfl
  have g2 := hf 2 _ rfl
  have g3 := hf 3 _ rfl
  have g4 := hf 4 _ rfl
  have g5 := hf 5 _ rfl
  have g6 := hf 6 _ rfl
  have g7 := hf 7 _ rfl
  have g8 := hf 8 _ rfl
  simp [c3, c9, c53] at g0 g1 g2 g3 g4 g5 g6 g7 g8
  obtain ⟨n0, e0, _, _⟩ := DataW.trod_int Tryz.underlying3 g0
  obtain ⟨n1, e1, _, _⟩ := DataW.trod_int Tryz.underlying3 g1
  obtain ⟨n2, e2, _, _⟩ := DataW.trod_int Tryz.underlying3 g2
  obtain ⟨n3, e3, _, _⟩ := DataW.trod_int Tryz.underlying3 g3
  obtain ⟨s4, e4, _, _⟩ := DataW.trod_string Tryz.underlying9 g4
  obtain ⟨s5, e5, _, _⟩ := DataW.trod_string Tryz.underlying9 g5
  obtain ⟨n6, e6, _, _⟩ := DataW.trod_int Tryz.underlying53 g6
  obtain ⟨n7, e7, _, _⟩ := DataW.trod_int Tryz.underlying3 g7
  obtain ⟨n8, e8, _, _⟩ := DataW.trod_int Tryz.underlying3 g8
  simp only [List.cons.injEq, and_true] at e0 e1 e2 e3 e4 e5 e6 e7 e8
  subst e0 e1 e2 e3 e4 e5 e6 e7 e8
  refine ⟨⟨n0, n1, n2, n3, s4, s5, n6, n7, n8⟩, fun j v hv => ?_⟩
  have hj : j < 9 := by
    have := (List.getElem?_eq_some_iff.1 hv).1
    simpa [OpV.cells] using this
  have := hc j hj
  rw [add_add] at this
  have ha : a.add (i * 9 + j) = ⟨a.block, a.off + i * 9 + j, none⟩ := by
    unfold Addr.add
    split
    · cases a; simp_all
    · simp
  rw [ha] at this
  rw [this]
  exact hv

set_option maxRecDepth 100000 in
set_option maxHeartbeats 2000000 in
theorem news_walk (ad : Option Addr) (len cap : Nat) (w : World)
    (hu : ∀ w1, Below w.heap.size w w1 → Calls Tryz.prog 16 #[.slice ad len cap, .int .i64 1, .int .i64 1, .int .i64 1] w1 fun e w' => e = .returned (.int .i64 (-1)) ∧ Below w1.heap.size w1 w') :
    Calls Tryz.prog 3 #[.slice ad len cap] w fun e w' => e = .returned (.bool true) ∧ Below w.heap.size w w' := by
  have HU := @id (Hid _) hu
  clear hu
  go_enter Tryz.func3, Tryz.ntmps3
  go_wp2_with (first
    | (go_at_call 15; go_must (refine (sound_any _).mono ?_; rintro e w1 ⟨rfl, hb1⟩))
    | (go_at_call 16; go_must (refine (HU.out _ hb1).mono ?_; rintro e w2 ⟨rfl, hb2⟩)))
  go_ret
  exact ⟨rfl, hb1.trans (hb2.mono hb1.size)⟩

theorem ScriptAt.later {w w' : World} {sb so len : Nat} (h : ScriptAt w sb so len) (hb : Below w.heap.size w w') : ScriptAt w' sb so len := by
  intro i hi
  obtain ⟨o, ho⟩ := h i hi
  refine ⟨o, fun j v hv => ?_⟩
  have h1 := ho j v hv
  rw [hb.cell (World.block_lt_of_cell? w _ h1)]
  exact h1

theorem Tryz.own : ownKnob Tryz.prog.godebug = none := by kernel_rfl
theorem Tryz.laidOut : laidOutB Tryz.prog = true := by kernel_rfl

set_option maxRecDepth 100000 in
theorem news_lifted (os : Os) (started : os.Started) (H : Type) (enc : TypeId × Value → H) :
    ReturnsInHanded {} Tryz.checked os 3 .any (Rows.newsSpec.pre6 enc Tryz.prog Tryz.f3 Rows.newsRow.domain false) (Rows.newsSpec.post enc Tryz.prog Tryz.f3 false true false false) := by
  refine returnsInHanded_of_change (C := Tryz.checked) Tryz.own started (by kernel_rfl) Tryz.func3
    (ChangeSpec.witness6 (enc := enc) (C := Tryz.checked) false ⟨#[], #[.slice none 0 0], []⟩ 8 (by kernel_rfl) (by kernel_rfl) (by kernel_rfl) (by kernel_rfl)) ?_
  intro W base args ds gs before hval0 hW hcnd _
  have hval : ∀ (j : Nat) t v, Tryz.f3.params[j]? = some t → args[j]? = some v → Value.okWide Tryz.prog W .any base t v := hval0
  have hW' := hW
  obtain ⟨p, q, hA0, hV, rfl, hfz, hnd⟩ := hW
  have hA : DataW.TrodAll enc Tryz.prog W 0 (fun _ => true) true Tryz.f3.params.toList args.toList ds p := hA0
  rw [Tryz.params3] at hA hval
  obtain ⟨v0, d0, rfl, rfl, h0⟩ := trodAll_one hA
  obtain ⟨rfl, rfl⟩ := trodVars_none hV
  obtain ⟨a0, len, cap, rfl⟩ := okWide_slice Tryz.underlying22 (hval 0 22 v0 rfl rfl)
  clear hA0 hval0
  simp only [List.append_nil] at hW'
  have hlt : ∀ x ∈ p, x.block < W.heap.size := fun x hx => hW'.lt x (by simpa using hx)
  have hc : Calls Tryz.prog 3 #[.slice a0 len cap] W fun e w' => e = .returned (.bool true) ∧ Below W.heap.size W w' := by
    refine news_walk a0 len cap W fun w1 hb1 => ?_
    obtain ⟨fuel, hf⟩ := h0
    rcases open_slice Tryz.underlying22 hf with ⟨hcs, _⟩ | ⟨a, len', cap', m, n, D, Pl, hcs, _, hl, hm, hmm, _, hx⟩
    · simp [Value.cells] at hcs
      obtain ⟨rfl, rfl, rfl⟩ := hcs
      exact upTo_empty _ _ _ _ _ _
    · simp [Value.cells] at hcs
      obtain ⟨rfl, rfl, rfl⟩ := hcs
      by_cases hl0 : 0 < len
      · obtain ⟨hsp, hsc⟩ := script_of (len := len) (fun i hi => hx i (by rw [hmm]; split <;> omega)) hl0
        have ha : a = ⟨a.block, a.off, none⟩ := by cases a; simp_all
        rw [ha]
        exact upTo_news a.block a.off len cap w1 (by omega) (hsc.later hb1)
      · obtain rfl : len = 0 := by omega
        exact upTo_empty _ _ _ _ _ _
  refine hc.mono fun e W' ⟨he, hB⟩ => ?_
  subst he
  refine ⟨_, rfl, _, _, _, [], p, [], hW', ?_, ?_, ?_, hB.frame _, fun h => by cases h⟩
  · exact trodAll_mk1 (shut_bool Tryz.underlying4 true)
  · exact trodAll_mk1 (Below.trod Tryz.laidOut (by kernel_rfl) (of_decide_eq_true (by kernel_rfl)) h0 hB hlt)
  · rfl

theorem news_holds : Rows.NewsSaid :=
  OpenClaim.holds_of_wide 3 Tryz.f3 rfl rfl rfl rfl rfl rfl rfl ⟨rfl, rfl, rfl, rfl, rfl⟩ rfl rfl rfl rfl rfl (by kernel_rfl) Tryz.func3 (by kernel_rfl)
    (of_decide_eq_true (by kernel_rfl)) (by unfold Func.isWrapper; first | (rw [if_pos (by decide +kernel)]; kernel_rfl) | (rw [if_neg (by decide +kernel)]; exact ⟨rfl, rfl⟩))
    (fun os started H enc _ => news_lifted os started H enc)
end Go.Proofs.YtihbngfbcnojcaaGreat
