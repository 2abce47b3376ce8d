import Derived.Test.YtihbngfbcnojcaaGreatHidC18
namespace Go.Proofs.YtihbngfbcnojcaaGreat
open Go.RowKit


set_option maxRecDepth 100000 in
set_option maxHeartbeats 4000000 in
theorem hidden_1c (m : Int) (key one two : ByteArray) (w : World) (hz : HSizes key one two 1) :
    Calls Tryz.prog 7 #[.int .i64 m, .string key, .string one, .string two, .bool true] w fun e w' => e = .returned (.bool true) ∧ Below w.heap.size w w' := by
  have z1 : key.size < 1 := hz
  have n1 : (key.size : Int) < 1 := by omega
  have HCALL : Hid (∀ a k, HidCalls w a k ⟨#[107, 101, 121]⟩ ⟨#[111, 110, 101]⟩ ⟨#[116, 119, 111]⟩) := fun a k => hidCalls w a k ⟨#[107, 101, 121]⟩ ⟨#[111, 110, 101]⟩ ⟨#[116, 119, 111]⟩ (by decide) (by decide) (by decide)
  have tb1 : True := trivial
  have tp1 : True := trivial
  have tc1 : True := trivial
  have tb2 : True := trivial
  have tb3 : True := trivial
  have tp2 : True := trivial
  have tg1 : True := trivial
  have tg2 : True := trivial
  go_enter Tryz.func7, Tryz.ntmps7
  go_wp2_with (first
    | (go_at_call 18; go_must (refine (mode_any m w).mono ?_; rintro e w0 ⟨b, rfl, rfl⟩))
    | (go_at_call 17; go_must (
        refine (fresh_any b w).mono ?_
        rintro e w1 ⟨a, s, rfl, hb1, hn1⟩
        have H0 : Hid (Hs w w1 a b Sp.empty 0) := hEmpty hb1 hn1
        clear hb1 hn1))
    | (have _t := tb1; go_at_call 19; go_must (
        clear tb1
        refine ((HCALL.out a b).b1 _ H0.out).mono ?_
        rintro e x1 ⟨rfl, hs⟩
        have H1 := @id (Hid (Hs _ x1 _ _ _ _)) hs
        clear hs))
    | (have _t := tp1; go_at_call 20; go_must (
        clear tp1
        refine ((HCALL.out a b).p1 _ H1.out).mono ?_
        rintro e x2 ⟨rfl, hs⟩
        have H2 := @id (Hid (Hs _ x2 _ _ _ _)) hs
        clear hs))
    | (have _t := tc1; go_at_call 21; go_must (
        clear tc1
        refine ((HCALL.out a b).c1 _ H2.out).mono ?_
        rintro e x3 ⟨rfl, hs⟩
        have H3 := @id (Hid (Hs _ x3 _ _ _ _)) hs
        clear hs))
    | (have _t := tb2; go_at_call 19; go_must (
        clear tb2
        refine ((HCALL.out a b).b2 _ H3.out).mono ?_
        rintro e x4 ⟨rfl, hs⟩
        have H4 := @id (Hid (Hs _ x4 _ _ _ _)) hs
        clear hs))
    | (have _t := tb3; go_at_call 19; go_must (
        clear tb3
        refine ((HCALL.out a b).b3 _ H4.out).mono ?_
        rintro e x5 ⟨rfl, hs⟩
        have H5 := @id (Hid (Hs _ x5 _ _ _ _)) hs
        clear hs))
    | (have _t := tp2; go_at_call 20; go_must (
        clear tp2
        refine ((HCALL.out a b).p2 _ H5.out).mono ?_
        rintro e x6 ⟨rfl, hs⟩
        have H6 := @id (Hid (Hs _ x6 _ _ _ _)) hs
        clear hs))
    | (go_at_call 22; go_must (
        refine (hDump H6.out).mono ?_
        rintro e x7 ⟨gg, cp, cur, rfl, hs, hc0, hc1⟩
        have H7 := @id (Hid (Hl _ x7 _ _ _ _ _)) hs
        have HC : Hid (cur[0]? = some (.string ⟨#[107, 101, 121]⟩) ∧ cur[1]? = some (.string ⟨#[111, 110, 101]⟩)) := ⟨hc0, hc1⟩
        clear hs hc0 hc1))
    | (have _t := tg1; go_at_call 23; go_must (
        clear tg1
        refine ((HCALL.out a b).g1 _ _ H7.out).mono ?_
        rintro e x8 ⟨rfl, hs⟩
        have H8 := @id (Hid (Hl _ x8 _ _ _ _ _)) hs
        clear hs))
    | (have _t := tg2; go_at_call 23; go_must (
        clear tg2
        refine ((HCALL.out a b).g2 _ _ (H8.out.alloc _ _)).mono ?_
        rintro e x9 ⟨rfl, hs⟩
        have H9 := @id (Hid (Hl _ x9 _ _ _ _ _)) hs
        clear hs))
    | (go_at_call 24; go_must (
        refine ((HCALL.out a b).d1 _ _ (H9.out.alloc _ _)).mono ?_
        rintro e x10 ⟨rfl, hs⟩
        have H10 := @id (Hid (Hl _ x10 _ _ _ _ _)) hs
        have hq0 : x10.heap[gg]? = some (.cells cur 43 (0, 0)) := hs.2.2 _ (List.mem_cons_of_mem _ (List.mem_cons_of_mem _ (List.mem_singleton.2 rfl)))
        have hq1 : x10.heap[x8.heap.size]? = some (.cells #[.bool true, .string ⟨#[116, 119, 111]⟩] 38 (0, 0)) := hs.2.2 _ (List.mem_cons_of_mem _ (List.mem_cons_self ..))
        have c0 := cell_at (j := 0) hq0 HC.out.1
        have c1 := cell_at (j := 1) hq0 HC.out.2
        have c2 := cell_at (j := 0) hq1 rfl
        have c3 := cell_at (j := 1) hq1 rfl
        clear hq0 hq1
        clear hs))
    | (go_at_call 21; go_must (
        refine ((HCALL.out a b).c2 _ _ H10.out).mono ?_
        rintro e x11 ⟨rfl, hs⟩
        have H11 := @id (Hid (Hl _ x11 _ _ _ _ _)) hs
        clear hs))
    | (have _t := H11; go_at_call 23; go_must (
        refine ((HCALL.out a b).g3 _ _ H11.out).mono ?_
        rintro e x12 ⟨rfl, hs⟩
        have H12 : Hid (Below w.heap.size w x12) := hs
        clear hs)))
  go_ret
  exact ⟨rfl, H12.out.alloc H12.out.size _⟩

set_option maxRecDepth 100000 in
set_option maxHeartbeats 4000000 in
theorem hidden_1a (m : Int) (key one two : ByteArray) (w : World) (hz : HSizes key one two 1) :
    Calls Tryz.prog 7 #[.int .i64 m, .string key, .string one, .string two, .bool false] w fun e w' => e = .returned (.bool true) ∧ Below w.heap.size w w' := by
  have z1 : key.size < 1 := hz
  have n1 : (key.size : Int) < 1 := by omega
  have HCALL : Hid (∀ a k, HidCalls w a k ⟨#[107, 101, 121]⟩ ⟨#[111, 110, 101]⟩ ⟨#[116, 119, 111]⟩) := fun a k => hidCalls w a k ⟨#[107, 101, 121]⟩ ⟨#[111, 110, 101]⟩ ⟨#[116, 119, 111]⟩ (by decide) (by decide) (by decide)
  have tb1 : True := trivial
  have tp1 : True := trivial
  have tc1 : True := trivial
  have tb2 : True := trivial
  have tb3 : True := trivial
  have tp2 : True := trivial
  have tg1 : True := trivial
  have tg2 : True := trivial
  go_enter Tryz.func7, Tryz.ntmps7
  go_wp2_with (first
    | (go_at_call 18; go_must (refine (mode_any m w).mono ?_; rintro e w0 ⟨b, rfl, rfl⟩))
    | (go_at_call 17; go_must (
        refine (fresh_any b w).mono ?_
        rintro e w1 ⟨a, s, rfl, hb1, hn1⟩
        have H0 : Hid (Hs w w1 a b Sp.empty 0) := hEmpty hb1 hn1
        clear hb1 hn1))
    | (have _t := tb1; go_at_call 19; go_must (
        clear tb1
        refine ((HCALL.out a b).b1 _ H0.out).mono ?_
        rintro e x1 ⟨rfl, hs⟩
        have H1 := @id (Hid (Hs _ x1 _ _ _ _)) hs
        clear hs))
    | (have _t := tp1; go_at_call 20; go_must (
        clear tp1
        refine ((HCALL.out a b).p1 _ H1.out).mono ?_
        rintro e x2 ⟨rfl, hs⟩
        have H2 := @id (Hid (Hs _ x2 _ _ _ _)) hs
        clear hs))
    | (have _t := tc1; go_at_call 21; go_must (
        clear tc1
        refine ((HCALL.out a b).c1 _ H2.out).mono ?_
        rintro e x3 ⟨rfl, hs⟩
        have H3 := @id (Hid (Hs _ x3 _ _ _ _)) hs
        clear hs))
    | (have _t := tb2; go_at_call 19; go_must (
        clear tb2
        refine ((HCALL.out a b).b2 _ H3.out).mono ?_
        rintro e x4 ⟨rfl, hs⟩
        have H4 := @id (Hid (Hs _ x4 _ _ _ _)) hs
        clear hs))
    | (have _t := tb3; go_at_call 19; go_must (
        clear tb3
        refine ((HCALL.out a b).b3 _ H4.out).mono ?_
        rintro e x5 ⟨rfl, hs⟩
        have H5 := @id (Hid (Hs _ x5 _ _ _ _)) hs
        clear hs))
    | (have _t := tp2; go_at_call 20; go_must (
        clear tp2
        refine ((HCALL.out a b).p2 _ H5.out).mono ?_
        rintro e x6 ⟨rfl, hs⟩
        have H6 := @id (Hid (Hs _ x6 _ _ _ _)) hs
        clear hs))
    | (go_at_call 22; go_must (
        refine (hDump H6.out).mono ?_
        rintro e x7 ⟨gg, cp, cur, rfl, hs, hc0, hc1⟩
        have H7 := @id (Hid (Hl _ x7 _ _ _ _ _)) hs
        have HC : Hid (cur[0]? = some (.string ⟨#[107, 101, 121]⟩) ∧ cur[1]? = some (.string ⟨#[111, 110, 101]⟩)) := ⟨hc0, hc1⟩
        clear hs hc0 hc1))
    | (have _t := tg1; go_at_call 23; go_must (
        clear tg1
        refine ((HCALL.out a b).g1 _ _ H7.out).mono ?_
        rintro e x8 ⟨rfl, hs⟩
        have H8 := @id (Hid (Hl _ x8 _ _ _ _ _)) hs
        clear hs))
    | (have _t := tg2; go_at_call 23; go_must (
        clear tg2
        refine ((HCALL.out a b).g2 _ _ (H8.out.alloc _ _)).mono ?_
        rintro e x9 ⟨rfl, hs⟩
        have H9 := @id (Hid (Hl _ x9 _ _ _ _ _)) hs
        clear hs))
    | (go_at_call 24; go_must (
        refine ((HCALL.out a b).d1 _ _ (H9.out.alloc _ _)).mono ?_
        rintro e x10 ⟨rfl, hs⟩
        have H10 := @id (Hid (Hl _ x10 _ _ _ _ _)) hs
        have hq0 : x10.heap[gg]? = some (.cells cur 43 (0, 0)) := hs.2.2 _ (List.mem_cons_of_mem _ (List.mem_cons_of_mem _ (List.mem_singleton.2 rfl)))
        have hq1 : x10.heap[x8.heap.size]? = some (.cells #[.bool true, .string ⟨#[116, 119, 111]⟩] 38 (0, 0)) := hs.2.2 _ (List.mem_cons_of_mem _ (List.mem_cons_self ..))
        have c0 := cell_at (j := 0) hq0 HC.out.1
        have c1 := cell_at (j := 1) hq0 HC.out.2
        have c2 := cell_at (j := 0) hq1 rfl
        have c3 := cell_at (j := 1) hq1 rfl
        clear hq0 hq1
        clear hs))
    | (go_at_call 25; go_must (
        refine ((HCALL.out a b).a2 _ _ H10.out).mono ?_
        rintro e x11 ⟨rfl, hs⟩
        have H11 := @id (Hid (Hl _ x11 _ _ _ _ _)) hs
        clear hs))
    | (have _t := H11; go_at_call 23; go_must (
        refine ((HCALL.out a b).g4 _ _ H11.out).mono ?_
        rintro e x12 ⟨rfl, hs⟩
        have H12 : Hid (Below w.heap.size w x12) := hs
        clear hs)))
  go_ret
  exact ⟨rfl, H12.out.alloc H12.out.size _⟩

set_option maxRecDepth 100000 in
set_option maxHeartbeats 4000000 in
theorem hidden_2c (m : Int) (key one two : ByteArray) (w : World) (hz : HSizes key one two 2) :
    Calls Tryz.prog 7 #[.int .i64 m, .string key, .string one, .string two, .bool true] w fun e w' => e = .returned (.bool true) ∧ Below w.heap.size w w' := by
  obtain ⟨z1, z2⟩ := hz
  have n1 : ¬ (key.size : Int) < 1 := by omega
  have n2 : (8 : Int) < (key.size : Int) := by omega
  have HCALL : Hid (∀ a k, HidCalls w a k ⟨#[107, 101, 121]⟩ ⟨#[111, 110, 101]⟩ ⟨#[116, 119, 111]⟩) := fun a k => hidCalls w a k ⟨#[107, 101, 121]⟩ ⟨#[111, 110, 101]⟩ ⟨#[116, 119, 111]⟩ (by decide) (by decide) (by decide)
  have tb1 : True := trivial
  have tp1 : True := trivial
  have tc1 : True := trivial
  have tb2 : True := trivial
  have tb3 : True := trivial
  have tp2 : True := trivial
  have tg1 : True := trivial
  have tg2 : True := trivial
  go_enter Tryz.func7, Tryz.ntmps7
  go_wp2_with (first
    | (go_at_call 18; go_must (refine (mode_any m w).mono ?_; rintro e w0 ⟨b, rfl, rfl⟩))
    | (go_at_call 17; go_must (
        refine (fresh_any b w).mono ?_
        rintro e w1 ⟨a, s, rfl, hb1, hn1⟩
        have H0 : Hid (Hs w w1 a b Sp.empty 0) := hEmpty hb1 hn1
        clear hb1 hn1))
    | (have _t := tb1; go_at_call 19; go_must (
        clear tb1
        refine ((HCALL.out a b).b1 _ H0.out).mono ?_
        rintro e x1 ⟨rfl, hs⟩
        have H1 := @id (Hid (Hs _ x1 _ _ _ _)) hs
        clear hs))
    | (have _t := tp1; go_at_call 20; go_must (
        clear tp1
        refine ((HCALL.out a b).p1 _ H1.out).mono ?_
        rintro e x2 ⟨rfl, hs⟩
        have H2 := @id (Hid (Hs _ x2 _ _ _ _)) hs
        clear hs))
    | (have _t := tc1; go_at_call 21; go_must (
        clear tc1
        refine ((HCALL.out a b).c1 _ H2.out).mono ?_
        rintro e x3 ⟨rfl, hs⟩
        have H3 := @id (Hid (Hs _ x3 _ _ _ _)) hs
        clear hs))
    | (have _t := tb2; go_at_call 19; go_must (
        clear tb2
        refine ((HCALL.out a b).b2 _ H3.out).mono ?_
        rintro e x4 ⟨rfl, hs⟩
        have H4 := @id (Hid (Hs _ x4 _ _ _ _)) hs
        clear hs))
    | (have _t := tb3; go_at_call 19; go_must (
        clear tb3
        refine ((HCALL.out a b).b3 _ H4.out).mono ?_
        rintro e x5 ⟨rfl, hs⟩
        have H5 := @id (Hid (Hs _ x5 _ _ _ _)) hs
        clear hs))
    | (have _t := tp2; go_at_call 20; go_must (
        clear tp2
        refine ((HCALL.out a b).p2 _ H5.out).mono ?_
        rintro e x6 ⟨rfl, hs⟩
        have H6 := @id (Hid (Hs _ x6 _ _ _ _)) hs
        clear hs))
    | (go_at_call 22; go_must (
        refine (hDump H6.out).mono ?_
        rintro e x7 ⟨gg, cp, cur, rfl, hs, hc0, hc1⟩
        have H7 := @id (Hid (Hl _ x7 _ _ _ _ _)) hs
        have HC : Hid (cur[0]? = some (.string ⟨#[107, 101, 121]⟩) ∧ cur[1]? = some (.string ⟨#[111, 110, 101]⟩)) := ⟨hc0, hc1⟩
        clear hs hc0 hc1))
    | (have _t := tg1; go_at_call 23; go_must (
        clear tg1
        refine ((HCALL.out a b).g1 _ _ H7.out).mono ?_
        rintro e x8 ⟨rfl, hs⟩
        have H8 := @id (Hid (Hl _ x8 _ _ _ _ _)) hs
        clear hs))
    | (have _t := tg2; go_at_call 23; go_must (
        clear tg2
        refine ((HCALL.out a b).g2 _ _ (H8.out.alloc _ _)).mono ?_
        rintro e x9 ⟨rfl, hs⟩
        have H9 := @id (Hid (Hl _ x9 _ _ _ _ _)) hs
        clear hs))
    | (go_at_call 24; go_must (
        refine ((HCALL.out a b).d1 _ _ (H9.out.alloc _ _)).mono ?_
        rintro e x10 ⟨rfl, hs⟩
        have H10 := @id (Hid (Hl _ x10 _ _ _ _ _)) hs
        have hq0 : x10.heap[gg]? = some (.cells cur 43 (0, 0)) := hs.2.2 _ (List.mem_cons_of_mem _ (List.mem_cons_of_mem _ (List.mem_singleton.2 rfl)))
        have hq1 : x10.heap[x8.heap.size]? = some (.cells #[.bool true, .string ⟨#[116, 119, 111]⟩] 38 (0, 0)) := hs.2.2 _ (List.mem_cons_of_mem _ (List.mem_cons_self ..))
        have c0 := cell_at (j := 0) hq0 HC.out.1
        have c1 := cell_at (j := 1) hq0 HC.out.2
        have c2 := cell_at (j := 0) hq1 rfl
        have c3 := cell_at (j := 1) hq1 rfl
        clear hq0 hq1
        clear hs))
    | (go_at_call 21; go_must (
        refine ((HCALL.out a b).c2 _ _ H10.out).mono ?_
        rintro e x11 ⟨rfl, hs⟩
        have H11 := @id (Hid (Hl _ x11 _ _ _ _ _)) hs
        clear hs))
    | (have _t := H11; go_at_call 23; go_must (
        refine ((HCALL.out a b).g3 _ _ H11.out).mono ?_
        rintro e x12 ⟨rfl, hs⟩
        have H12 : Hid (Below w.heap.size w x12) := hs
        clear hs)))
  go_ret
  exact ⟨rfl, H12.out.alloc H12.out.size _⟩

set_option maxRecDepth 100000 in
set_option maxHeartbeats 4000000 in
theorem hidden_2a (m : Int) (key one two : ByteArray) (w : World) (hz : HSizes key one two 2) :
    Calls Tryz.prog 7 #[.int .i64 m, .string key, .string one, .string two, .bool false] w fun e w' => e = .returned (.bool true) ∧ Below w.heap.size w w' := by
  obtain ⟨z1, z2⟩ := hz
  have n1 : ¬ (key.size : Int) < 1 := by omega
  have n2 : (8 : Int) < (key.size : Int) := by omega
  have HCALL : Hid (∀ a k, HidCalls w a k ⟨#[107, 101, 121]⟩ ⟨#[111, 110, 101]⟩ ⟨#[116, 119, 111]⟩) := fun a k => hidCalls w a k ⟨#[107, 101, 121]⟩ ⟨#[111, 110, 101]⟩ ⟨#[116, 119, 111]⟩ (by decide) (by decide) (by decide)
  have tb1 : True := trivial
  have tp1 : True := trivial
  have tc1 : True := trivial
  have tb2 : True := trivial
  have tb3 : True := trivial
  have tp2 : True := trivial
  have tg1 : True := trivial
  have tg2 : True := trivial
  go_enter Tryz.func7, Tryz.ntmps7
  go_wp2_with (first
    | (go_at_call 18; go_must (refine (mode_any m w).mono ?_; rintro e w0 ⟨b, rfl, rfl⟩))
    | (go_at_call 17; go_must (
        refine (fresh_any b w).mono ?_
        rintro e w1 ⟨a, s, rfl, hb1, hn1⟩
        have H0 : Hid (Hs w w1 a b Sp.empty 0) := hEmpty hb1 hn1
        clear hb1 hn1))
    | (have _t := tb1; go_at_call 19; go_must (
        clear tb1
        refine ((HCALL.out a b).b1 _ H0.out).mono ?_
        rintro e x1 ⟨rfl, hs⟩
        have H1 := @id (Hid (Hs _ x1 _ _ _ _)) hs
        clear hs))
    | (have _t := tp1; go_at_call 20; go_must (
        clear tp1
        refine ((HCALL.out a b).p1 _ H1.out).mono ?_
        rintro e x2 ⟨rfl, hs⟩
        have H2 := @id (Hid (Hs _ x2 _ _ _ _)) hs
        clear hs))
    | (have _t := tc1; go_at_call 21; go_must (
        clear tc1
        refine ((HCALL.out a b).c1 _ H2.out).mono ?_
        rintro e x3 ⟨rfl, hs⟩
        have H3 := @id (Hid (Hs _ x3 _ _ _ _)) hs
        clear hs))
    | (have _t := tb2; go_at_call 19; go_must (
        clear tb2
        refine ((HCALL.out a b).b2 _ H3.out).mono ?_
        rintro e x4 ⟨rfl, hs⟩
        have H4 := @id (Hid (Hs _ x4 _ _ _ _)) hs
        clear hs))
    | (have _t := tb3; go_at_call 19; go_must (
        clear tb3
        refine ((HCALL.out a b).b3 _ H4.out).mono ?_
        rintro e x5 ⟨rfl, hs⟩
        have H5 := @id (Hid (Hs _ x5 _ _ _ _)) hs
        clear hs))
    | (have _t := tp2; go_at_call 20; go_must (
        clear tp2
        refine ((HCALL.out a b).p2 _ H5.out).mono ?_
        rintro e x6 ⟨rfl, hs⟩
        have H6 := @id (Hid (Hs _ x6 _ _ _ _)) hs
        clear hs))
    | (go_at_call 22; go_must (
        refine (hDump H6.out).mono ?_
        rintro e x7 ⟨gg, cp, cur, rfl, hs, hc0, hc1⟩
        have H7 := @id (Hid (Hl _ x7 _ _ _ _ _)) hs
        have HC : Hid (cur[0]? = some (.string ⟨#[107, 101, 121]⟩) ∧ cur[1]? = some (.string ⟨#[111, 110, 101]⟩)) := ⟨hc0, hc1⟩
        clear hs hc0 hc1))
    | (have _t := tg1; go_at_call 23; go_must (
        clear tg1
        refine ((HCALL.out a b).g1 _ _ H7.out).mono ?_
        rintro e x8 ⟨rfl, hs⟩
        have H8 := @id (Hid (Hl _ x8 _ _ _ _ _)) hs
        clear hs))
    | (have _t := tg2; go_at_call 23; go_must (
        clear tg2
        refine ((HCALL.out a b).g2 _ _ (H8.out.alloc _ _)).mono ?_
        rintro e x9 ⟨rfl, hs⟩
        have H9 := @id (Hid (Hl _ x9 _ _ _ _ _)) hs
        clear hs))
    | (go_at_call 24; go_must (
        refine ((HCALL.out a b).d1 _ _ (H9.out.alloc _ _)).mono ?_
        rintro e x10 ⟨rfl, hs⟩
        have H10 := @id (Hid (Hl _ x10 _ _ _ _ _)) hs
        have hq0 : x10.heap[gg]? = some (.cells cur 43 (0, 0)) := hs.2.2 _ (List.mem_cons_of_mem _ (List.mem_cons_of_mem _ (List.mem_singleton.2 rfl)))
        have hq1 : x10.heap[x8.heap.size]? = some (.cells #[.bool true, .string ⟨#[116, 119, 111]⟩] 38 (0, 0)) := hs.2.2 _ (List.mem_cons_of_mem _ (List.mem_cons_self ..))
        have c0 := cell_at (j := 0) hq0 HC.out.1
        have c1 := cell_at (j := 1) hq0 HC.out.2
        have c2 := cell_at (j := 0) hq1 rfl
        have c3 := cell_at (j := 1) hq1 rfl
        clear hq0 hq1
        clear hs))
    | (go_at_call 25; go_must (
        refine ((HCALL.out a b).a2 _ _ H10.out).mono ?_
        rintro e x11 ⟨rfl, hs⟩
        have H11 := @id (Hid (Hl _ x11 _ _ _ _ _)) hs
        clear hs))
    | (have _t := H11; go_at_call 23; go_must (
        refine ((HCALL.out a b).g4 _ _ H11.out).mono ?_
        rintro e x12 ⟨rfl, hs⟩
        have H12 : Hid (Below w.heap.size w x12) := hs
        clear hs)))
  go_ret
  exact ⟨rfl, H12.out.alloc H12.out.size _⟩
end Go.Proofs.YtihbngfbcnojcaaGreat

namespace Go.Proofs.YtihbngfbcnojcaaGreat
open Go.RowKit


set_option maxRecDepth 100000 in
set_option maxHeartbeats 4000000 in
theorem hidden_3c (m : Int) (key one two : ByteArray) (w : World) (hz : HSizes key one two 3) :
    Calls Tryz.prog 7 #[.int .i64 m, .string key, .string one, .string two, .bool true] w fun e w' => e = .returned (.bool true) ∧ Below w.heap.size w w' := by
  obtain ⟨z1, z2, z3⟩ := hz
  have n1 : ¬ (key.size : Int) < 1 := by omega
  have n2 : ¬ (8 : Int) < (key.size : Int) := by omega
  have n3 : (12 : Int) < (one.size : Int) := by omega
  have HCALL : Hid (∀ a k, HidCalls w a k ⟨#[107, 101, 121]⟩ ⟨#[111, 110, 101]⟩ ⟨#[116, 119, 111]⟩) := fun a k => hidCalls w a k ⟨#[107, 101, 121]⟩ ⟨#[111, 110, 101]⟩ ⟨#[116, 119, 111]⟩ (by decide) (by decide) (by decide)
  have tb1 : True := trivial
  have tp1 : True := trivial
  have tc1 : True := trivial
  have tb2 : True := trivial
  have tb3 : True := trivial
  have tp2 : True := trivial
  have tg1 : True := trivial
  have tg2 : True := trivial
  go_enter Tryz.func7, Tryz.ntmps7
  go_wp2_with (first
    | (go_at_call 18; go_must (refine (mode_any m w).mono ?_; rintro e w0 ⟨b, rfl, rfl⟩))
    | (go_at_call 17; go_must (
        refine (fresh_any b w).mono ?_
        rintro e w1 ⟨a, s, rfl, hb1, hn1⟩
        have H0 : Hid (Hs w w1 a b Sp.empty 0) := hEmpty hb1 hn1
        clear hb1 hn1))
    | (have _t := tb1; go_at_call 19; go_must (
        clear tb1
        refine ((HCALL.out a b).b1 _ H0.out).mono ?_
        rintro e x1 ⟨rfl, hs⟩
        have H1 := @id (Hid (Hs _ x1 _ _ _ _)) hs
        clear hs))
    | (have _t := tp1; go_at_call 20; go_must (
        clear tp1
        refine ((HCALL.out a b).p1 _ H1.out).mono ?_
        rintro e x2 ⟨rfl, hs⟩
        have H2 := @id (Hid (Hs _ x2 _ _ _ _)) hs
        clear hs))
    | (have _t := tc1; go_at_call 21; go_must (
        clear tc1
        refine ((HCALL.out a b).c1 _ H2.out).mono ?_
        rintro e x3 ⟨rfl, hs⟩
        have H3 := @id (Hid (Hs _ x3 _ _ _ _)) hs
        clear hs))
    | (have _t := tb2; go_at_call 19; go_must (
        clear tb2
        refine ((HCALL.out a b).b2 _ H3.out).mono ?_
        rintro e x4 ⟨rfl, hs⟩
        have H4 := @id (Hid (Hs _ x4 _ _ _ _)) hs
        clear hs))
    | (have _t := tb3; go_at_call 19; go_must (
        clear tb3
        refine ((HCALL.out a b).b3 _ H4.out).mono ?_
        rintro e x5 ⟨rfl, hs⟩
        have H5 := @id (Hid (Hs _ x5 _ _ _ _)) hs
        clear hs))
    | (have _t := tp2; go_at_call 20; go_must (
        clear tp2
        refine ((HCALL.out a b).p2 _ H5.out).mono ?_
        rintro e x6 ⟨rfl, hs⟩
        have H6 := @id (Hid (Hs _ x6 _ _ _ _)) hs
        clear hs))
    | (go_at_call 22; go_must (
        refine (hDump H6.out).mono ?_
        rintro e x7 ⟨gg, cp, cur, rfl, hs, hc0, hc1⟩
        have H7 := @id (Hid (Hl _ x7 _ _ _ _ _)) hs
        have HC : Hid (cur[0]? = some (.string ⟨#[107, 101, 121]⟩) ∧ cur[1]? = some (.string ⟨#[111, 110, 101]⟩)) := ⟨hc0, hc1⟩
        clear hs hc0 hc1))
    | (have _t := tg1; go_at_call 23; go_must (
        clear tg1
        refine ((HCALL.out a b).g1 _ _ H7.out).mono ?_
        rintro e x8 ⟨rfl, hs⟩
        have H8 := @id (Hid (Hl _ x8 _ _ _ _ _)) hs
        clear hs))
    | (have _t := tg2; go_at_call 23; go_must (
        clear tg2
        refine ((HCALL.out a b).g2 _ _ (H8.out.alloc _ _)).mono ?_
        rintro e x9 ⟨rfl, hs⟩
        have H9 := @id (Hid (Hl _ x9 _ _ _ _ _)) hs
        clear hs))
    | (go_at_call 24; go_must (
        refine ((HCALL.out a b).d1 _ _ (H9.out.alloc _ _)).mono ?_
        rintro e x10 ⟨rfl, hs⟩
        have H10 := @id (Hid (Hl _ x10 _ _ _ _ _)) hs
        have hq0 : x10.heap[gg]? = some (.cells cur 43 (0, 0)) := hs.2.2 _ (List.mem_cons_of_mem _ (List.mem_cons_of_mem _ (List.mem_singleton.2 rfl)))
        have hq1 : x10.heap[x8.heap.size]? = some (.cells #[.bool true, .string ⟨#[116, 119, 111]⟩] 38 (0, 0)) := hs.2.2 _ (List.mem_cons_of_mem _ (List.mem_cons_self ..))
        have c0 := cell_at (j := 0) hq0 HC.out.1
        have c1 := cell_at (j := 1) hq0 HC.out.2
        have c2 := cell_at (j := 0) hq1 rfl
        have c3 := cell_at (j := 1) hq1 rfl
        clear hq0 hq1
        clear hs))
    | (go_at_call 21; go_must (
        refine ((HCALL.out a b).c2 _ _ H10.out).mono ?_
        rintro e x11 ⟨rfl, hs⟩
        have H11 := @id (Hid (Hl _ x11 _ _ _ _ _)) hs
        clear hs))
    | (have _t := H11; go_at_call 23; go_must (
        refine ((HCALL.out a b).g3 _ _ H11.out).mono ?_
        rintro e x12 ⟨rfl, hs⟩
        have H12 : Hid (Below w.heap.size w x12) := hs
        clear hs)))
  go_ret
  exact ⟨rfl, H12.out.alloc H12.out.size _⟩

set_option maxRecDepth 100000 in
set_option maxHeartbeats 4000000 in
theorem hidden_3a (m : Int) (key one two : ByteArray) (w : World) (hz : HSizes key one two 3) :
    Calls Tryz.prog 7 #[.int .i64 m, .string key, .string one, .string two, .bool false] w fun e w' => e = .returned (.bool true) ∧ Below w.heap.size w w' := by
  obtain ⟨z1, z2, z3⟩ := hz
  have n1 : ¬ (key.size : Int) < 1 := by omega
  have n2 : ¬ (8 : Int) < (key.size : Int) := by omega
  have n3 : (12 : Int) < (one.size : Int) := by omega
  have HCALL : Hid (∀ a k, HidCalls w a k ⟨#[107, 101, 121]⟩ ⟨#[111, 110, 101]⟩ ⟨#[116, 119, 111]⟩) := fun a k => hidCalls w a k ⟨#[107, 101, 121]⟩ ⟨#[111, 110, 101]⟩ ⟨#[116, 119, 111]⟩ (by decide) (by decide) (by decide)
  have tb1 : True := trivial
  have tp1 : True := trivial
  have tc1 : True := trivial
  have tb2 : True := trivial
  have tb3 : True := trivial
  have tp2 : True := trivial
  have tg1 : True := trivial
  have tg2 : True := trivial
  go_enter Tryz.func7, Tryz.ntmps7
  go_wp2_with (first
    | (go_at_call 18; go_must (refine (mode_any m w).mono ?_; rintro e w0 ⟨b, rfl, rfl⟩))
    | (go_at_call 17; go_must (
        refine (fresh_any b w).mono ?_
        rintro e w1 ⟨a, s, rfl, hb1, hn1⟩
        have H0 : Hid (Hs w w1 a b Sp.empty 0) := hEmpty hb1 hn1
        clear hb1 hn1))
    | (have _t := tb1; go_at_call 19; go_must (
        clear tb1
        refine ((HCALL.out a b).b1 _ H0.out).mono ?_
        rintro e x1 ⟨rfl, hs⟩
        have H1 := @id (Hid (Hs _ x1 _ _ _ _)) hs
        clear hs))
    | (have _t := tp1; go_at_call 20; go_must (
        clear tp1
        refine ((HCALL.out a b).p1 _ H1.out).mono ?_
        rintro e x2 ⟨rfl, hs⟩
        have H2 := @id (Hid (Hs _ x2 _ _ _ _)) hs
        clear hs))
    | (have _t := tc1; go_at_call 21; go_must (
        clear tc1
        refine ((HCALL.out a b).c1 _ H2.out).mono ?_
        rintro e x3 ⟨rfl, hs⟩
        have H3 := @id (Hid (Hs _ x3 _ _ _ _)) hs
        clear hs))
    | (have _t := tb2; go_at_call 19; go_must (
        clear tb2
        refine ((HCALL.out a b).b2 _ H3.out).mono ?_
        rintro e x4 ⟨rfl, hs⟩
        have H4 := @id (Hid (Hs _ x4 _ _ _ _)) hs
        clear hs))
    | (have _t := tb3; go_at_call 19; go_must (
        clear tb3
        refine ((HCALL.out a b).b3 _ H4.out).mono ?_
        rintro e x5 ⟨rfl, hs⟩
        have H5 := @id (Hid (Hs _ x5 _ _ _ _)) hs
        clear hs))
    | (have _t := tp2; go_at_call 20; go_must (
        clear tp2
        refine ((HCALL.out a b).p2 _ H5.out).mono ?_
        rintro e x6 ⟨rfl, hs⟩
        have H6 := @id (Hid (Hs _ x6 _ _ _ _)) hs
        clear hs))
    | (go_at_call 22; go_must (
        refine (hDump H6.out).mono ?_
        rintro e x7 ⟨gg, cp, cur, rfl, hs, hc0, hc1⟩
        have H7 := @id (Hid (Hl _ x7 _ _ _ _ _)) hs
        have HC : Hid (cur[0]? = some (.string ⟨#[107, 101, 121]⟩) ∧ cur[1]? = some (.string ⟨#[111, 110, 101]⟩)) := ⟨hc0, hc1⟩
        clear hs hc0 hc1))
    | (have _t := tg1; go_at_call 23; go_must (
        clear tg1
        refine ((HCALL.out a b).g1 _ _ H7.out).mono ?_
        rintro e x8 ⟨rfl, hs⟩
        have H8 := @id (Hid (Hl _ x8 _ _ _ _ _)) hs
        clear hs))
    | (have _t := tg2; go_at_call 23; go_must (
        clear tg2
        refine ((HCALL.out a b).g2 _ _ (H8.out.alloc _ _)).mono ?_
        rintro e x9 ⟨rfl, hs⟩
        have H9 := @id (Hid (Hl _ x9 _ _ _ _ _)) hs
        clear hs))
    | (go_at_call 24; go_must (
        refine ((HCALL.out a b).d1 _ _ (H9.out.alloc _ _)).mono ?_
        rintro e x10 ⟨rfl, hs⟩
        have H10 := @id (Hid (Hl _ x10 _ _ _ _ _)) hs
        have hq0 : x10.heap[gg]? = some (.cells cur 43 (0, 0)) := hs.2.2 _ (List.mem_cons_of_mem _ (List.mem_cons_of_mem _ (List.mem_singleton.2 rfl)))
        have hq1 : x10.heap[x8.heap.size]? = some (.cells #[.bool true, .string ⟨#[116, 119, 111]⟩] 38 (0, 0)) := hs.2.2 _ (List.mem_cons_of_mem _ (List.mem_cons_self ..))
        have c0 := cell_at (j := 0) hq0 HC.out.1
        have c1 := cell_at (j := 1) hq0 HC.out.2
        have c2 := cell_at (j := 0) hq1 rfl
        have c3 := cell_at (j := 1) hq1 rfl
        clear hq0 hq1
        clear hs))
    | (go_at_call 25; go_must (
        refine ((HCALL.out a b).a2 _ _ H10.out).mono ?_
        rintro e x11 ⟨rfl, hs⟩
        have H11 := @id (Hid (Hl _ x11 _ _ _ _ _)) hs
        clear hs))
    | (have _t := H11; go_at_call 23; go_must (
        refine ((HCALL.out a b).g4 _ _ H11.out).mono ?_
        rintro e x12 ⟨rfl, hs⟩
        have H12 : Hid (Below w.heap.size w x12) := hs
        clear hs)))
  go_ret
  exact ⟨rfl, H12.out.alloc H12.out.size _⟩

set_option maxRecDepth 100000 in
set_option maxHeartbeats 4000000 in
theorem hidden_4c (m : Int) (key one two : ByteArray) (w : World) (hz : HSizes key one two 4) :
    Calls Tryz.prog 7 #[.int .i64 m, .string key, .string one, .string two, .bool true] w fun e w' => e = .returned (.bool true) ∧ Below w.heap.size w w' := by
  obtain ⟨z1, z2, z3, z4⟩ := hz
  have n1 : ¬ (key.size : Int) < 1 := by omega
  have n2 : ¬ (8 : Int) < (key.size : Int) := by omega
  have n3 : ¬ (12 : Int) < (one.size : Int) := by omega
  have n4 : (12 : Int) < (two.size : Int) := by omega
  have HCALL : Hid (∀ a k, HidCalls w a k ⟨#[107, 101, 121]⟩ ⟨#[111, 110, 101]⟩ ⟨#[116, 119, 111]⟩) := fun a k => hidCalls w a k ⟨#[107, 101, 121]⟩ ⟨#[111, 110, 101]⟩ ⟨#[116, 119, 111]⟩ (by decide) (by decide) (by decide)
  have tb1 : True := trivial
  have tp1 : True := trivial
  have tc1 : True := trivial
  have tb2 : True := trivial
  have tb3 : True := trivial
  have tp2 : True := trivial
  have tg1 : True := trivial
  have tg2 : True := trivial
  go_enter Tryz.func7, Tryz.ntmps7
  go_wp2_with (first
    | (go_at_call 18; go_must (refine (mode_any m w).mono ?_; rintro e w0 ⟨b, rfl, rfl⟩))
    | (go_at_call 17; go_must (
        refine (fresh_any b w).mono ?_
        rintro e w1 ⟨a, s, rfl, hb1, hn1⟩
        have H0 : Hid (Hs w w1 a b Sp.empty 0) := hEmpty hb1 hn1
        clear hb1 hn1))
    | (have _t := tb1; go_at_call 19; go_must (
        clear tb1
        refine ((HCALL.out a b).b1 _ H0.out).mono ?_
        rintro e x1 ⟨rfl, hs⟩
        have H1 := @id (Hid (Hs _ x1 _ _ _ _)) hs
        clear hs))
    | (have _t := tp1; go_at_call 20; go_must (
        clear tp1
        refine ((HCALL.out a b).p1 _ H1.out).mono ?_
        rintro e x2 ⟨rfl, hs⟩
        have H2 := @id (Hid (Hs _ x2 _ _ _ _)) hs
        clear hs))
    | (have _t := tc1; go_at_call 21; go_must (
        clear tc1
        refine ((HCALL.out a b).c1 _ H2.out).mono ?_
        rintro e x3 ⟨rfl, hs⟩
        have H3 := @id (Hid (Hs _ x3 _ _ _ _)) hs
        clear hs))
    | (have _t := tb2; go_at_call 19; go_must (
        clear tb2
        refine ((HCALL.out a b).b2 _ H3.out).mono ?_
        rintro e x4 ⟨rfl, hs⟩
        have H4 := @id (Hid (Hs _ x4 _ _ _ _)) hs
        clear hs))
    | (have _t := tb3; go_at_call 19; go_must (
        clear tb3
        refine ((HCALL.out a b).b3 _ H4.out).mono ?_
        rintro e x5 ⟨rfl, hs⟩
        have H5 := @id (Hid (Hs _ x5 _ _ _ _)) hs
        clear hs))
    | (have _t := tp2; go_at_call 20; go_must (
        clear tp2
        refine ((HCALL.out a b).p2 _ H5.out).mono ?_
        rintro e x6 ⟨rfl, hs⟩
        have H6 := @id (Hid (Hs _ x6 _ _ _ _)) hs
        clear hs))
    | (go_at_call 22; go_must (
        refine (hDump H6.out).mono ?_
        rintro e x7 ⟨gg, cp, cur, rfl, hs, hc0, hc1⟩
        have H7 := @id (Hid (Hl _ x7 _ _ _ _ _)) hs
        have HC : Hid (cur[0]? = some (.string ⟨#[107, 101, 121]⟩) ∧ cur[1]? = some (.string ⟨#[111, 110, 101]⟩)) := ⟨hc0, hc1⟩
        clear hs hc0 hc1))
    | (have _t := tg1; go_at_call 23; go_must (
        clear tg1
        refine ((HCALL.out a b).g1 _ _ H7.out).mono ?_
        rintro e x8 ⟨rfl, hs⟩
        have H8 := @id (Hid (Hl _ x8 _ _ _ _ _)) hs
        clear hs))
    | (have _t := tg2; go_at_call 23; go_must (
        clear tg2
        refine ((HCALL.out a b).g2 _ _ (H8.out.alloc _ _)).mono ?_
        rintro e x9 ⟨rfl, hs⟩
        have H9 := @id (Hid (Hl _ x9 _ _ _ _ _)) hs
        clear hs))
    | (go_at_call 24; go_must (
        refine ((HCALL.out a b).d1 _ _ (H9.out.alloc _ _)).mono ?_
        rintro e x10 ⟨rfl, hs⟩
        have H10 := @id (Hid (Hl _ x10 _ _ _ _ _)) hs
        have hq0 : x10.heap[gg]? = some (.cells cur 43 (0, 0)) := hs.2.2 _ (List.mem_cons_of_mem _ (List.mem_cons_of_mem _ (List.mem_singleton.2 rfl)))
        have hq1 : x10.heap[x8.heap.size]? = some (.cells #[.bool true, .string ⟨#[116, 119, 111]⟩] 38 (0, 0)) := hs.2.2 _ (List.mem_cons_of_mem _ (List.mem_cons_self ..))
        have c0 := cell_at (j := 0) hq0 HC.out.1
        have c1 := cell_at (j := 1) hq0 HC.out.2
        have c2 := cell_at (j := 0) hq1 rfl
        have c3 := cell_at (j := 1) hq1 rfl
        clear hq0 hq1
        clear hs))
    | (go_at_call 21; go_must (
        refine ((HCALL.out a b).c2 _ _ H10.out).mono ?_
        rintro e x11 ⟨rfl, hs⟩
        have H11 := @id (Hid (Hl _ x11 _ _ _ _ _)) hs
        clear hs))
    | (have _t := H11; go_at_call 23; go_must (
        refine ((HCALL.out a b).g3 _ _ H11.out).mono ?_
        rintro e x12 ⟨rfl, hs⟩
        have H12 : Hid (Below w.heap.size w x12) := hs
        clear hs)))
  go_ret
  exact ⟨rfl, H12.out.alloc H12.out.size _⟩

set_option maxRecDepth 100000 in
set_option maxHeartbeats 4000000 in
theorem hidden_4a (m : Int) (key one two : ByteArray) (w : World) (hz : HSizes key one two 4) :
    Calls Tryz.prog 7 #[.int .i64 m, .string key, .string one, .string two, .bool false] w fun e w' => e = .returned (.bool true) ∧ Below w.heap.size w w' := by
  obtain ⟨z1, z2, z3, z4⟩ := hz
  have n1 : ¬ (key.size : Int) < 1 := by omega
  have n2 : ¬ (8 : Int) < (key.size : Int) := by omega
  have n3 : ¬ (12 : Int) < (one.size : Int) := by omega
  have n4 : (12 : Int) < (two.size : Int) := by omega
  have HCALL : Hid (∀ a k, HidCalls w a k ⟨#[107, 101, 121]⟩ ⟨#[111, 110, 101]⟩ ⟨#[116, 119, 111]⟩) := fun a k => hidCalls w a k ⟨#[107, 101, 121]⟩ ⟨#[111, 110, 101]⟩ ⟨#[116, 119, 111]⟩ (by decide) (by decide) (by decide)
  have tb1 : True := trivial
  have tp1 : True := trivial
  have tc1 : True := trivial
  have tb2 : True := trivial
  have tb3 : True := trivial
  have tp2 : True := trivial
  have tg1 : True := trivial
  have tg2 : True := trivial
  go_enter Tryz.func7, Tryz.ntmps7
  go_wp2_with (first
    | (go_at_call 18; go_must (refine (mode_any m w).mono ?_; rintro e w0 ⟨b, rfl, rfl⟩))
    | (go_at_call 17; go_must (
        refine (fresh_any b w).mono ?_
        rintro e w1 ⟨a, s, rfl, hb1, hn1⟩
        have H0 : Hid (Hs w w1 a b Sp.empty 0) := hEmpty hb1 hn1
        clear hb1 hn1))
    | (have _t := tb1; go_at_call 19; go_must (
        clear tb1
        refine ((HCALL.out a b).b1 _ H0.out).mono ?_
        rintro e x1 ⟨rfl, hs⟩
        have H1 := @id (Hid (Hs _ x1 _ _ _ _)) hs
        clear hs))
    | (have _t := tp1; go_at_call 20; go_must (
        clear tp1
        refine ((HCALL.out a b).p1 _ H1.out).mono ?_
        rintro e x2 ⟨rfl, hs⟩
        have H2 := @id (Hid (Hs _ x2 _ _ _ _)) hs
        clear hs))
    | (have _t := tc1; go_at_call 21; go_must (
        clear tc1
        refine ((HCALL.out a b).c1 _ H2.out).mono ?_
        rintro e x3 ⟨rfl, hs⟩
        have H3 := @id (Hid (Hs _ x3 _ _ _ _)) hs
        clear hs))
    | (have _t := tb2; go_at_call 19; go_must (
        clear tb2
        refine ((HCALL.out a b).b2 _ H3.out).mono ?_
        rintro e x4 ⟨rfl, hs⟩
        have H4 := @id (Hid (Hs _ x4 _ _ _ _)) hs
        clear hs))
    | (have _t := tb3; go_at_call 19; go_must (
        clear tb3
        refine ((HCALL.out a b).b3 _ H4.out).mono ?_
        rintro e x5 ⟨rfl, hs⟩
        have H5 := @id (Hid (Hs _ x5 _ _ _ _)) hs
        clear hs))
    | (have _t := tp2; go_at_call 20; go_must (
        clear tp2
        refine ((HCALL.out a b).p2 _ H5.out).mono ?_
        rintro e x6 ⟨rfl, hs⟩
        have H6 := @id (Hid (Hs _ x6 _ _ _ _)) hs
        clear hs))
    | (go_at_call 22; go_must (
        refine (hDump H6.out).mono ?_
        rintro e x7 ⟨gg, cp, cur, rfl, hs, hc0, hc1⟩
        have H7 := @id (Hid (Hl _ x7 _ _ _ _ _)) hs
        have HC : Hid (cur[0]? = some (.string ⟨#[107, 101, 121]⟩) ∧ cur[1]? = some (.string ⟨#[111, 110, 101]⟩)) := ⟨hc0, hc1⟩
        clear hs hc0 hc1))
    | (have _t := tg1; go_at_call 23; go_must (
        clear tg1
        refine ((HCALL.out a b).g1 _ _ H7.out).mono ?_
        rintro e x8 ⟨rfl, hs⟩
        have H8 := @id (Hid (Hl _ x8 _ _ _ _ _)) hs
        clear hs))
    | (have _t := tg2; go_at_call 23; go_must (
        clear tg2
        refine ((HCALL.out a b).g2 _ _ (H8.out.alloc _ _)).mono ?_
        rintro e x9 ⟨rfl, hs⟩
        have H9 := @id (Hid (Hl _ x9 _ _ _ _ _)) hs
        clear hs))
    | (go_at_call 24; go_must (
        refine ((HCALL.out a b).d1 _ _ (H9.out.alloc _ _)).mono ?_
        rintro e x10 ⟨rfl, hs⟩
        have H10 := @id (Hid (Hl _ x10 _ _ _ _ _)) hs
        have hq0 : x10.heap[gg]? = some (.cells cur 43 (0, 0)) := hs.2.2 _ (List.mem_cons_of_mem _ (List.mem_cons_of_mem _ (List.mem_singleton.2 rfl)))
        have hq1 : x10.heap[x8.heap.size]? = some (.cells #[.bool true, .string ⟨#[116, 119, 111]⟩] 38 (0, 0)) := hs.2.2 _ (List.mem_cons_of_mem _ (List.mem_cons_self ..))
        have c0 := cell_at (j := 0) hq0 HC.out.1
        have c1 := cell_at (j := 1) hq0 HC.out.2
        have c2 := cell_at (j := 0) hq1 rfl
        have c3 := cell_at (j := 1) hq1 rfl
        clear hq0 hq1
        clear hs))
    | (go_at_call 25; go_must (
        refine ((HCALL.out a b).a2 _ _ H10.out).mono ?_
        rintro e x11 ⟨rfl, hs⟩
        have H11 := @id (Hid (Hl _ x11 _ _ _ _ _)) hs
        clear hs))
    | (have _t := H11; go_at_call 23; go_must (
        refine ((HCALL.out a b).g4 _ _ H11.out).mono ?_
        rintro e x12 ⟨rfl, hs⟩
        have H12 : Hid (Below w.heap.size w x12) := hs
        clear hs)))
  go_ret
  exact ⟨rfl, H12.out.alloc H12.out.size _⟩
end Go.Proofs.YtihbngfbcnojcaaGreat
