import Derived.Test.YtihbngfbcnojcaaGreatActC12
import Derived.Shelf.SlIterI.Nil
import Derived.Shelf.SortM.Plain
import Derived.Shelf.SortM.SortNone
set_option maxRecDepth 100000
set_option maxHeartbeats 8000000
namespace Go.Proofs.YtihbngfbcnojcaaGreat
open Go.RowKit Tryz
variable {a q:Nat} {s:Sv} {w:World}
structure Yjc (w:World) (c0 c1 c2 a kb:Nat) (k:TypeId) (t:Int) (f:Nat) (cap:Array Value):Prop where
 h0:w.cell? ⟨c0,0,none⟩=some (.pointer (some ⟨a,0,none⟩))
 h1:w.cell? ⟨c1,0,none⟩=some (.int .i64 t)
 h2:w.cell? ⟨c2,0,none⟩=some (.func (.func f) #[] cap)
 ca:w.cell? ⟨a,2,none⟩=some (.iface k (.pointer (some ⟨kb,0,none⟩)))
theorem Yjc.below {w':World} {c0 c1 c2 kb:Nat} {k:TypeId} {t:Int} {f:Nat} {cap:Array Value} (h:Yjc w c0 c1 c2 a kb k t f cap) (hb:Below w.heap.size w w'):Yjc w' c0 c1 c2 a kb k t f cap:=
 ⟨(hb.cell (World.block_lt_of_cell? w _ h.h0)).trans h.h0,(hb.cell (World.block_lt_of_cell? w _ h.h1)).trans h.h1,(hb.cell (World.block_lt_of_cell? w _ h.h2)).trans h.h2,(hb.cell (World.block_lt_of_cell? w _ h.ca)).trans h.ca⟩
theorem Ysi (h:Yan w s) (a:Nat) (haw:a<w.heap.size) (k:TypeId) (ca:w.cell? ⟨a,2,none⟩=some (.iface k (.pointer (some ⟨s.kb,0,none⟩)))) (t:Int) (f:Nat) (cap:Array Value) (Q:Int→Sv→Prop)
 (KD:∀ W c0 c1 c2,Below w.heap.size w W→Yjc W c0 c1 c2 a s.kb k t f cap→Calls prog 69 #[.pointer (some ⟨c0,0,none⟩),.pointer (some ⟨c1,0,none⟩),.pointer (some ⟨c2,0,none⟩)] W fun e w'=>∃ x s',e=.returned (.int .i64 x)∧Q x s'∧Yab W w' s s'):
 Calls prog 43 #[.pointer (some ⟨a,0,none⟩),.int .i64 t,.func (.func f) #[] cap] w fun e w'=>∃ x s',e=.returned (.int .i64 x)∧Q x s'∧Yab w w' s s':=by
 obtain ⟨W3,hW3⟩:∃ W3,W3=((w.alloc (.cells #[.pointer (some ⟨a,0,none⟩)] 26)).alloc (.cells #[.int .i64 t] 3)).alloc (.cells #[.func (.func f) #[] cap] 1):=⟨_,rfl⟩
 have hz:W3.heap.size=w.heap.size+3:=by rw [hW3];simp
 have hb3:Below w.heap.size w W3:=by rw [hW3];exact (((Below.refl _ w).alloc (Nat.le_refl _) _).alloc (by simp) _).alloc (by simp;omega) _
 have g0:W3.heap[w.heap.size]? = some (.cells #[.pointer (some ⟨a,0,none⟩)] 26 (0,0)):=by
  rw [hW3,Below.heap_alloc _ _ _ (by simp;omega),Below.heap_alloc _ _ _ (by simp)];exact heap_alloc_new _ _
 have g1:W3.heap[w.heap.size+1]? = some (.cells #[.int .i64 t] 3 (0,0)):=by
  rw [hW3,Below.heap_alloc _ _ _ (by simp)];simpa using heap_alloc_new (w.alloc (.cells #[.pointer (some ⟨a,0,none⟩)] 26)) _
 have g2:W3.heap[w.heap.size+2]? = some (.cells #[.func (.func f) #[] cap] 1 (0,0)):=by
  rw [hW3];simpa using heap_alloc_new ((w.alloc (.cells #[.pointer (some ⟨a,0,none⟩)] 26)).alloc (.cells #[.int .i64 t] 3)) _
 have ca3:W3.cell? ⟨a,2,none⟩=some (.iface k (.pointer (some ⟨s.kb,0,none⟩))):=(hb3.cell haw).trans ca
 have KA:Hid (Calls prog 53 #[.pointer (some ⟨a,0,none⟩),.func (.func 69) #[] #[.pointer (some ⟨w.heap.size,0,none⟩),.pointer (some ⟨w.heap.size+1,0,none⟩),.pointer (some ⟨w.heap.size+2,0,none⟩)]] W3 fun e w'=>∃ x s',e=.returned (.int .i64 x)∧Q x s'∧Yab w w' s s'):=by
  refine (Ymz a k _ 69 _ W3 (fun x w'=>∃ W s',Below w.heap.size w W∧W.heap.size=W3.heap.size+2∧Q x s'∧Yab W w' s s') ca3 ?_ (fun args w=>rfl)).mono ?_
  ·intro o1 o2
   have hb5:Below W3.heap.size W3 (W3.alloc o1):=(Below.refl _ W3).alloc (Nat.le_refl _) _;have hb6:Below W3.heap.size W3 ((W3.alloc o1).alloc o2):=hb5.alloc (by simp) _;have hbw:Below w.heap.size w ((W3.alloc o1).alloc o2):=hb3.trans (hb6.mono (by omega));have hbox:Yjc ((W3.alloc o1).alloc o2) w.heap.size (w.heap.size+1) (w.heap.size+2) a s.kb k t f cap:=
    Yjc.below ⟨Yaa (j:=0) g0 rfl,Yaa (j:=0) g1 rfl,Yaa (j:=0) g2 rfl,ca3⟩ hb6
   refine (KD _ _ _ _ hbw hbox).mono ?_;rintro e w' ⟨x,s',rfl,h1,h2⟩;refine ⟨x,rfl,?_,_,s',hbw,by simp,h1,h2⟩;exact ((h2.own h (q:=W3.heap.size+1) (by omega) (by simp)).1).trans (by simpa using heap_alloc_new (W3.alloc o1) o2)
  ·rintro e w' ⟨x,w1,rfl,⟨W,s',h1,h2,h3,h4⟩,rfl⟩
   refine ⟨x,s',rfl,h3,Yab.wrap h h1 h4 (fun q _ hq=>?_) ((Below.refl _ _).setCell (p:=⟨W3.heap.size+1,0,none⟩) (by simp) _)⟩;exact Below.heap_setCell _ _ _ _ (by show q≠W3.heap.size+1;omega)
 clear KD h ca ca3 g0 g1 g2 hb3
 have hmf:∀ (fn:Fn) (first cap:Array Value) (w:World),(Instr.makeFunc fn first cap).run prog w=.ok (.func fn first cap) w:=fun _ _ _ _=>rfl
 subst hW3
 generalize Yab w=GO at KA ⊢
 go_enter func43,ntmps43
 go_wp2_with (first
  | (go_at_call 53;go_must (
   refine KA.out.mono ?_;rintro e w1 ⟨x,s',rfl,h1,h2⟩;have HX:Hid (Q x s'∧GO w1 s s'):=⟨h1,h2⟩;clear h1 h2)))
 go_ret
 exact ⟨x,s',rfl,HX.out⟩
theorem Ysj {W:World} (h:Yan W s) (g:Yar s) (t:Int) (ht:Yax t) (c:Int) (hc:c=if (s.tx t).isSome then 0 else 5):∀ W',W'.heap=W.heap→Calls prog 278 #[.pointer (some ⟨s.kb,0,none⟩),.int .i64 t] W' fun e w'=>e=.returned (.int .i64 c)∧W'=w':=fun W' hW=>by
 rw [hc];exact Yy1 (h.frame (fun tag k _=>by rw [hW]) (by rw [hW];exact Nat.le_refl _)) g t ht
theorem Ysk (k:Bool) (L:Yc5 w a (Yb8 k) s q) (t:Int) (ht:Yax t) (hx:s.tx t=none) (f:Nat) (cap:Array Value):
 Calls prog 43 #[.pointer (some ⟨a,0,none⟩),.int .i64 t,.func (.func f) #[] cap] w fun e w'=>e=.returned (.int .i64 5)∧Yab w w' s s:=by
 refine (Ysi L.lies a L.haw (Yb8 k) L.ca t f cap (fun x s'=>x=5∧s'=s) ?_).mono ?_
 ·intro W c0 c1 c2 hb hbox
  have KM:=Ysj (L.lies.below hb) L.good t ht 5 (by rw [hx];rfl)
  cases k with
  | true=>
   refine (Yzl c0 c1 c2 a s.kb t W hbox.h0 hbox.h1 hbox.ca KM).mono ?_;rintro e w' ⟨h1,h2⟩;exact ⟨5,s,h1,⟨rfl,rfl⟩,Yab.of_below (L.lies.below hb) L.good h2⟩
  | false=>
   refine (Yzn c0 c1 c2 a s.kb t W hbox.h0 hbox.h1 hbox.ca KM).mono ?_;rintro e w' ⟨h1,h2⟩;exact ⟨5,s,h1,⟨rfl,rfl⟩,Yab.of_below (L.lies.below hb) L.good h2⟩
 ·rintro e w' ⟨x,s',h1,⟨rfl,rfl⟩,h2⟩
  exact ⟨h1,h2⟩
theorem Yly (k:Bool) (L:Yc5 w a (Yb8 k) s q) (t:Int) (ht:Yax t) (x:TxE) (hx:s.tx t=some x) (f:Nat) (cap:Array Value) (Q:Sv→Prop)
 (KH:∀ W,Below w.heap.size w W→Calls prog f cap W fun e w'=>e=.returned (.tuple #[])∧∃ s',Q s'∧Yab W w' s s') (hen:∀ args w,(callFunc f args).run prog w=.ok (.enter f args) w):
 Calls prog 43 #[.pointer (some ⟨a,0,none⟩),.int .i64 t,.func (.func f) #[] cap] w fun e w'=>e=.returned (.int .i64 0)∧∃ s',Q s'∧Yab w w' s s':=by
 refine (Ysi L.lies a L.haw (Yb8 k) L.ca t f cap (fun x s'=>x=0∧Q s') ?_).mono ?_
 ·intro W c0 c1 c2 hb hbox
  have KM:=Ysj (L.lies.below hb) L.good t ht 0 (by rw [hx];rfl);have hgd:Yab W W.drew s s:=Yab.of_below (L.lies.below hb) L.good (Below.refl _ W).drew;have KH':=(KH W.drew hb.drew).mono (R':=fun e w'=>e=.returned (.tuple #[])∧∃ s',Q s'∧Yab W w' s s') (by
   rintro e w' ⟨h1,s',h2,h3⟩;exact ⟨h1,s',h2,hgd.trans h3⟩)
  cases k with
  | true=>
   refine (Yzm c0 c1 c2 a s.kb f cap t W _ hbox.h0 hbox.h1 hbox.h2 hbox.ca KM KH' hen).mono ?_;rintro e w' ⟨h1,s',h2,h3⟩;exact ⟨0,s',h1,⟨rfl,h2⟩,h3⟩
  | false=>
   refine (Yzo c0 c1 c2 a s.kb f cap t W _ hbox.h0 hbox.h1 hbox.h2 hbox.ca KM KH' hen).mono ?_;rintro e w' ⟨h1,s',h2,h3⟩;exact ⟨0,s',h1,⟨rfl,h2⟩,h3⟩
 ·rintro e w' ⟨c,s',h1,⟨rfl,h2⟩,h3⟩
  exact ⟨h1,s',h2,h3⟩
theorem Yz4 (b0 b1 a kb:Nat) (t:Int) (w:World) (R:World→Prop) (h0:w.cell? ⟨b0,0,none⟩=some (.pointer (some ⟨a,0,none⟩))) (h1:w.cell? ⟨b1,0,none⟩=some (.int .i64 t)) (ca:w.cell? ⟨a,2,none⟩=some (.iface 234 (.pointer (some ⟨kb,0,none⟩))))
 (KC:Calls prog 299 #[.pointer (some ⟨kb,0,none⟩),.int .i64 t] w.drew fun e w'=>e=.returned (.tuple #[])∧R w'∧w'.cell? ⟨b0,0,none⟩=some (.pointer (some ⟨a,0,none⟩))∧w'.cell? ⟨b1,0,none⟩=some (.int .i64 t)∧w'.cell? ⟨a,2,none⟩=some (.iface 234 (.pointer (some ⟨kb,0,none⟩)))):
 Calls prog 46 #[.pointer (some ⟨b0,0,none⟩),.pointer (some ⟨b1,0,none⟩)] w fun e w'=>e=.returned (.tuple #[])∧R w':=by
 have HKC:=Yh KC
 have hme:=Yzg
 clear KC
 go_enter func46,ntmps46
 go_region_held3 (fun w'=>w'.cell? ⟨b0,0,none⟩=some (.pointer (some ⟨a,0,none⟩))∧w'.cell? ⟨b1,0,none⟩=some (.int .i64 t)∧w'.cell? ⟨a,2,none⟩=some (.iface 234 (.pointer (some ⟨kb,0,none⟩))))
  (go_keep)
  (first
   | (go_at_call 299;go_must (
    refine HKC.out.mono ?_;rintro e w1 ⟨rfl,hr,k0,k1,k2⟩;have HR:=Yh hr;clear hr)))
 all_goals
  go_wp2;go_end0;exact ⟨rfl,HR.out⟩
theorem Yz5 (b0 b1 a kb:Nat) (t:Int) (w:World) (R:World→Prop) (h0:w.cell? ⟨b0,0,none⟩=some (.pointer (some ⟨a,0,none⟩))) (h1:w.cell? ⟨b1,0,none⟩=some (.int .i64 t)) (ca:w.cell? ⟨a,2,none⟩=some (.iface 224 (.pointer (some ⟨kb,0,none⟩))))
 (KC:Calls prog 272 #[.pointer (some ⟨kb,0,none⟩),.int .i64 t] w.drew fun e w'=>e=.returned (.tuple #[])∧R w'∧w'.cell? ⟨b0,0,none⟩=some (.pointer (some ⟨a,0,none⟩))∧w'.cell? ⟨b1,0,none⟩=some (.int .i64 t)∧w'.cell? ⟨a,2,none⟩=some (.iface 224 (.pointer (some ⟨kb,0,none⟩)))):
 Calls prog 46 #[.pointer (some ⟨b0,0,none⟩),.pointer (some ⟨b1,0,none⟩)] w fun e w'=>e=.returned (.tuple #[])∧R w':=by
 have HKC:=Yh KC
 have hme:=Yzj
 clear KC
 go_enter func46,ntmps46
 go_region_held3 (fun w'=>w'.cell? ⟨b0,0,none⟩=some (.pointer (some ⟨a,0,none⟩))∧w'.cell? ⟨b1,0,none⟩=some (.int .i64 t)∧w'.cell? ⟨a,2,none⟩=some (.iface 224 (.pointer (some ⟨kb,0,none⟩))))
  (go_keep)
  (first
   | (go_at_call 272;go_must (
    refine HKC.out.mono ?_;rintro e w1 ⟨rfl,hr,k0,k1,k2⟩;have HR:=Yh hr;clear hr)))
 all_goals
  go_wp2;go_end0;exact ⟨rfl,HR.out⟩
theorem Yn7 (h:Yan w s) (a:Nat) (t:Int) (Q:Int→Sv→Prop)
 (KE:∀ W,Below w.heap.size w W→W.cell? ⟨w.heap.size,0,none⟩=some (.pointer (some ⟨a,0,none⟩))→W.cell? ⟨w.heap.size+1,0,none⟩=some (.int .i64 t)→Calls prog 43 #[.pointer (some ⟨a,0,none⟩),.int .i64 t,.func (.func 44) #[] #[.pointer (some ⟨w.heap.size,0,none⟩),.pointer (some ⟨w.heap.size+1,0,none⟩)]] W fun e w'=>∃ x s',e=.returned (.int .i64 x)∧Q x s'∧Yab W w' s s'):
 Calls prog 21 #[.pointer (some ⟨a,0,none⟩),.int .i64 t] w fun e w'=>∃ x s',e=.returned (.int .i64 x)∧Q x s'∧Yab w w' s s':=by
 obtain ⟨W2,hW2⟩:∃ W2,W2=(w.alloc (.cells #[.pointer (some ⟨a,0,none⟩)] 26)).alloc (.cells #[.int .i64 t] 3):=⟨_,rfl⟩
 have hb2:Below w.heap.size w W2:=by rw [hW2];exact ((Below.refl _ w).alloc (Nat.le_refl _) _).alloc (by simp) _
 have g0:W2.heap[w.heap.size]? = some (.cells #[.pointer (some ⟨a,0,none⟩)] 26 (0,0)):=by
  rw [hW2,Below.heap_alloc _ _ _ (by simp)];exact heap_alloc_new _ _
 have g1:W2.heap[w.heap.size+1]? = some (.cells #[.int .i64 t] 3 (0,0)):=by
  rw [hW2];simpa using heap_alloc_new (w.alloc (.cells #[.pointer (some ⟨a,0,none⟩)] 26)) _
 have KA:Hid (Calls prog 43 #[.pointer (some ⟨a,0,none⟩),.int .i64 t,.func (.func 44) #[] #[.pointer (some ⟨w.heap.size,0,none⟩),.pointer (some ⟨w.heap.size+1,0,none⟩)]] W2 fun e w'=>∃ x s',e=.returned (.int .i64 x)∧Q x s'∧Yab w w' s s'):=by
  refine (KE W2 hb2 (Yaa (j:=0) g0 rfl) (Yaa (j:=0) g1 rfl)).mono ?_;rintro e w' ⟨x,s',h1,h2,h3⟩;exact ⟨x,s',h1,h2,Yab.wrap h hb2 h3 (fun _ _ _=>rfl) (Below.refl _ _)⟩
 clear KE h g0 g1 hb2
 have hmf:∀ (fn:Fn) (first cap:Array Value) (w:World),(Instr.makeFunc fn first cap).run prog w=.ok (.func fn first cap) w:=fun _ _ _ _=>rfl
 subst hW2
 generalize Yab w=GO at KA ⊢
 go_enter func21,ntmps21
 go_wp2_with (first
  | (go_at_call 43;go_must (
   refine KA.out.mono ?_;rintro e w1 ⟨x,s',rfl,h1,h2⟩;have HX:Hid (Q x s'∧GO w1 s s'):=⟨h1,h2⟩;clear h1 h2)))
 go_ret
 exact ⟨x,s',rfl,HX.out⟩
theorem Yz6 (L:Yc5 w a 234 s q) (t:Int) (ht:Yax t) (x:TxE) (hx:s.tx t=some x) (Q:Sv→Prop)
 (KC:∀ W,Yan W s→Calls prog 300 #[.pointer (some ⟨s.kb,0,none⟩),.int .i64 t] W fun e w'=>e=.returned (.tuple #[])∧∃ s',Q s'∧Yab W w' s s'):
 Calls prog 21 #[.pointer (some ⟨a,0,none⟩),.int .i64 t] w fun e w'=>e=.returned (.int .i64 0)∧∃ s',Q s'∧Yab w w' s s':=by
 refine (Yn7 L.lies a t (fun x s'=>x=0∧Q s') ?_).mono ?_
 ·intro W hb h0 h1
  have LW:Yc5 W a (Yb8 true) s q:=L.go (Yab.of_below L.lies L.good hb) L.held L.cap rfl;have hs0:=World.block_lt_of_cell? W _ h0;have hs1:=World.block_lt_of_cell? W _ h1;simp only at hs0 hs1;refine (Yly true LW t ht x hx _ _ Q ?_ (fun args w=>rfl)).mono ?_
  ·intro W' hb'
   have hgd:Yab W' W'.drew s s:=Yab.of_below (LW.lies.below hb') L.good (Below.refl _ W').drew;have hg0:Yab W W' s s:=Yab.of_below LW.lies L.good hb';refine Yzh w.heap.size (w.heap.size+1) a s.kb t W' _ ((hb'.cell (p:=⟨w.heap.size,0,none⟩) hs0).trans h0) ((hb'.cell (p:=⟨w.heap.size+1,0,none⟩) hs1).trans h1) ((hb'.cell (p:=⟨a,2,none⟩) LW.haw).trans LW.ca) ?_;refine (KC W'.drew (LW.lies.below hb'.drew)).mono ?_;rintro e w' ⟨k1,s',k2,k3⟩;have k4:=hgd.trans k3;have hsz:=hb'.size;exact ⟨k1,⟨s',k2,k4⟩,(World.cell?_of_block (k4.off w.heap.size (by omega) (fun tag ht=>by have:=L.lies.lt tag _ ht;omega))).trans ((hb'.cell (p:=⟨w.heap.size,0,none⟩) hs0).trans h0),(World.cell?_of_block (k4.off (w.heap.size+1) (by omega) (fun tag ht=>by have:=L.lies.lt tag _ ht;omega))).trans ((hb'.cell (p:=⟨w.heap.size+1,0,none⟩) hs1).trans h1),
    (World.cell?_of_block (k4.off a (by have:=LW.haw;omega) L.hao)).trans ((hb'.cell (p:=⟨a,2,none⟩) LW.haw).trans LW.ca)⟩
  ·rintro e w' ⟨k1,s',k2,k3⟩
   exact ⟨0,s',k1,⟨rfl,k2⟩,k3⟩
 ·rintro e w' ⟨c,s',h1,⟨rfl,h2⟩,h3⟩
  exact ⟨h1,s',h2,h3⟩
theorem Ysl (L:Yc5 w a 224 s q) (t:Int) (ht:Yax t) (x:TxE) (hx:s.tx t=some x) (Q:Sv→Prop)
 (KC:∀ W,Yan W s→Calls prog 275 #[.pointer (some ⟨s.kb,0,none⟩),.int .i64 t] W fun e w'=>e=.returned (.tuple #[])∧∃ s',Q s'∧Yab W w' s s'):
 Calls prog 21 #[.pointer (some ⟨a,0,none⟩),.int .i64 t] w fun e w'=>e=.returned (.int .i64 0)∧∃ s',Q s'∧Yab w w' s s':=by
 refine (Yn7 L.lies a t (fun x s'=>x=0∧Q s') ?_).mono ?_
 ·intro W hb h0 h1
  have LW:Yc5 W a (Yb8 false) s q:=L.go (Yab.of_below L.lies L.good hb) L.held L.cap rfl;have hs0:=World.block_lt_of_cell? W _ h0;have hs1:=World.block_lt_of_cell? W _ h1;simp only at hs0 hs1;refine (Yly false LW t ht x hx _ _ Q ?_ (fun args w=>rfl)).mono ?_
  ·intro W' hb'
   have hgd:Yab W' W'.drew s s:=Yab.of_below (LW.lies.below hb') L.good (Below.refl _ W').drew;have hg0:Yab W W' s s:=Yab.of_below LW.lies L.good hb';refine Yzk w.heap.size (w.heap.size+1) a s.kb t W' _ ((hb'.cell (p:=⟨w.heap.size,0,none⟩) hs0).trans h0) ((hb'.cell (p:=⟨w.heap.size+1,0,none⟩) hs1).trans h1) ((hb'.cell (p:=⟨a,2,none⟩) LW.haw).trans LW.ca) ?_;refine (KC W'.drew (LW.lies.below hb'.drew)).mono ?_;rintro e w' ⟨k1,s',k2,k3⟩;have k4:=hgd.trans k3;have hsz:=hb'.size;exact ⟨k1,⟨s',k2,k4⟩,(World.cell?_of_block (k4.off w.heap.size (by omega) (fun tag ht=>by have:=L.lies.lt tag _ ht;omega))).trans ((hb'.cell (p:=⟨w.heap.size,0,none⟩) hs0).trans h0),(World.cell?_of_block (k4.off (w.heap.size+1) (by omega) (fun tag ht=>by have:=L.lies.lt tag _ ht;omega))).trans ((hb'.cell (p:=⟨w.heap.size+1,0,none⟩) hs1).trans h1),
    (World.cell?_of_block (k4.off a (by have:=LW.haw;omega) L.hao)).trans ((hb'.cell (p:=⟨a,2,none⟩) LW.haw).trans LW.ca)⟩
  ·rintro e w' ⟨k1,s',k2,k3⟩
   exact ⟨0,s',k1,⟨rfl,k2⟩,k3⟩
 ·rintro e w' ⟨c,s',h1,⟨rfl,h2⟩,h3⟩
  exact ⟨h1,s',h2,h3⟩
theorem Yn8 (h:Yan w s) (a:Nat) (t:Int) (Q:Int→Sv→Prop)
 (KE:∀ W,Below w.heap.size w W→W.cell? ⟨w.heap.size,0,none⟩=some (.pointer (some ⟨a,0,none⟩))→W.cell? ⟨w.heap.size+1,0,none⟩=some (.int .i64 t)→Calls prog 43 #[.pointer (some ⟨a,0,none⟩),.int .i64 t,.func (.func 46) #[] #[.pointer (some ⟨w.heap.size,0,none⟩),.pointer (some ⟨w.heap.size+1,0,none⟩)]] W fun e w'=>∃ x s',e=.returned (.int .i64 x)∧Q x s'∧Yab W w' s s'):
 Calls prog 25 #[.pointer (some ⟨a,0,none⟩),.int .i64 t] w fun e w'=>∃ x s',e=.returned (.int .i64 x)∧Q x s'∧Yab w w' s s':=by
 obtain ⟨W2,hW2⟩:∃ W2,W2=(w.alloc (.cells #[.pointer (some ⟨a,0,none⟩)] 26)).alloc (.cells #[.int .i64 t] 3):=⟨_,rfl⟩
 have hb2:Below w.heap.size w W2:=by rw [hW2];exact ((Below.refl _ w).alloc (Nat.le_refl _) _).alloc (by simp) _
 have g0:W2.heap[w.heap.size]? = some (.cells #[.pointer (some ⟨a,0,none⟩)] 26 (0,0)):=by
  rw [hW2,Below.heap_alloc _ _ _ (by simp)];exact heap_alloc_new _ _
 have g1:W2.heap[w.heap.size+1]? = some (.cells #[.int .i64 t] 3 (0,0)):=by
  rw [hW2];simpa using heap_alloc_new (w.alloc (.cells #[.pointer (some ⟨a,0,none⟩)] 26)) _
 have KA:Hid (Calls prog 43 #[.pointer (some ⟨a,0,none⟩),.int .i64 t,.func (.func 46) #[] #[.pointer (some ⟨w.heap.size,0,none⟩),.pointer (some ⟨w.heap.size+1,0,none⟩)]] W2 fun e w'=>∃ x s',e=.returned (.int .i64 x)∧Q x s'∧Yab w w' s s'):=by
  refine (KE W2 hb2 (Yaa (j:=0) g0 rfl) (Yaa (j:=0) g1 rfl)).mono ?_;rintro e w' ⟨x,s',h1,h2,h3⟩;exact ⟨x,s',h1,h2,Yab.wrap h hb2 h3 (fun _ _ _=>rfl) (Below.refl _ _)⟩
 clear KE h g0 g1 hb2
 have hmf:∀ (fn:Fn) (first cap:Array Value) (w:World),(Instr.makeFunc fn first cap).run prog w=.ok (.func fn first cap) w:=fun _ _ _ _=>rfl
 subst hW2
 generalize Yab w=GO at KA ⊢
 go_enter func25,ntmps25
 go_wp2_with (first
  | (go_at_call 43;go_must (
   refine KA.out.mono ?_;rintro e w1 ⟨x,s',rfl,h1,h2⟩;have HX:Hid (Q x s'∧GO w1 s s'):=⟨h1,h2⟩;clear h1 h2)))
 go_ret
 exact ⟨x,s',rfl,HX.out⟩
theorem Yz7 (L:Yc5 w a 234 s q) (t:Int) (ht:Yax t) (x:TxE) (hx:s.tx t=some x) (Q:Sv→Prop)
 (KC:∀ W,Yan W s→Calls prog 299 #[.pointer (some ⟨s.kb,0,none⟩),.int .i64 t] W fun e w'=>e=.returned (.tuple #[])∧∃ s',Q s'∧Yab W w' s s'):
 Calls prog 25 #[.pointer (some ⟨a,0,none⟩),.int .i64 t] w fun e w'=>e=.returned (.int .i64 0)∧∃ s',Q s'∧Yab w w' s s':=by
 refine (Yn8 L.lies a t (fun x s'=>x=0∧Q s') ?_).mono ?_
 ·intro W hb h0 h1
  have LW:Yc5 W a (Yb8 true) s q:=L.go (Yab.of_below L.lies L.good hb) L.held L.cap rfl;have hs0:=World.block_lt_of_cell? W _ h0;have hs1:=World.block_lt_of_cell? W _ h1;simp only at hs0 hs1;refine (Yly true LW t ht x hx _ _ Q ?_ (fun args w=>rfl)).mono ?_
  ·intro W' hb'
   have hgd:Yab W' W'.drew s s:=Yab.of_below (LW.lies.below hb') L.good (Below.refl _ W').drew;have hg0:Yab W W' s s:=Yab.of_below LW.lies L.good hb';refine Yz4 w.heap.size (w.heap.size+1) a s.kb t W' _ ((hb'.cell (p:=⟨w.heap.size,0,none⟩) hs0).trans h0) ((hb'.cell (p:=⟨w.heap.size+1,0,none⟩) hs1).trans h1) ((hb'.cell (p:=⟨a,2,none⟩) LW.haw).trans LW.ca) ?_;refine (KC W'.drew (LW.lies.below hb'.drew)).mono ?_;rintro e w' ⟨k1,s',k2,k3⟩;have k4:=hgd.trans k3;have hsz:=hb'.size;exact ⟨k1,⟨s',k2,k4⟩,(World.cell?_of_block (k4.off w.heap.size (by omega) (fun tag ht=>by have:=L.lies.lt tag _ ht;omega))).trans ((hb'.cell (p:=⟨w.heap.size,0,none⟩) hs0).trans h0),(World.cell?_of_block (k4.off (w.heap.size+1) (by omega) (fun tag ht=>by have:=L.lies.lt tag _ ht;omega))).trans ((hb'.cell (p:=⟨w.heap.size+1,0,none⟩) hs1).trans h1),
    (World.cell?_of_block (k4.off a (by have:=LW.haw;omega) L.hao)).trans ((hb'.cell (p:=⟨a,2,none⟩) LW.haw).trans LW.ca)⟩
  ·rintro e w' ⟨k1,s',k2,k3⟩
   exact ⟨0,s',k1,⟨rfl,k2⟩,k3⟩
 ·rintro e w' ⟨c,s',h1,⟨rfl,h2⟩,h3⟩
  exact ⟨h1,s',h2,h3⟩
theorem Yz8 (L:Yc5 w a 224 s q) (t:Int) (ht:Yax t) (x:TxE) (hx:s.tx t=some x) (Q:Sv→Prop)
 (KC:∀ W,Yan W s→Calls prog 272 #[.pointer (some ⟨s.kb,0,none⟩),.int .i64 t] W fun e w'=>e=.returned (.tuple #[])∧∃ s',Q s'∧Yab W w' s s'):
 Calls prog 25 #[.pointer (some ⟨a,0,none⟩),.int .i64 t] w fun e w'=>e=.returned (.int .i64 0)∧∃ s',Q s'∧Yab w w' s s':=by
 refine (Yn8 L.lies a t (fun x s'=>x=0∧Q s') ?_).mono ?_
 ·intro W hb h0 h1
  have LW:Yc5 W a (Yb8 false) s q:=L.go (Yab.of_below L.lies L.good hb) L.held L.cap rfl;have hs0:=World.block_lt_of_cell? W _ h0;have hs1:=World.block_lt_of_cell? W _ h1;simp only at hs0 hs1;refine (Yly false LW t ht x hx _ _ Q ?_ (fun args w=>rfl)).mono ?_
  ·intro W' hb'
   have hgd:Yab W' W'.drew s s:=Yab.of_below (LW.lies.below hb') L.good (Below.refl _ W').drew;have hg0:Yab W W' s s:=Yab.of_below LW.lies L.good hb';refine Yz5 w.heap.size (w.heap.size+1) a s.kb t W' _ ((hb'.cell (p:=⟨w.heap.size,0,none⟩) hs0).trans h0) ((hb'.cell (p:=⟨w.heap.size+1,0,none⟩) hs1).trans h1) ((hb'.cell (p:=⟨a,2,none⟩) LW.haw).trans LW.ca) ?_;refine (KC W'.drew (LW.lies.below hb'.drew)).mono ?_;rintro e w' ⟨k1,s',k2,k3⟩;have k4:=hgd.trans k3;have hsz:=hb'.size;exact ⟨k1,⟨s',k2,k4⟩,(World.cell?_of_block (k4.off w.heap.size (by omega) (fun tag ht=>by have:=L.lies.lt tag _ ht;omega))).trans ((hb'.cell (p:=⟨w.heap.size,0,none⟩) hs0).trans h0),(World.cell?_of_block (k4.off (w.heap.size+1) (by omega) (fun tag ht=>by have:=L.lies.lt tag _ ht;omega))).trans ((hb'.cell (p:=⟨w.heap.size+1,0,none⟩) hs1).trans h1),
    (World.cell?_of_block (k4.off a (by have:=LW.haw;omega) L.hao)).trans ((hb'.cell (p:=⟨a,2,none⟩) LW.haw).trans LW.ca)⟩
  ·rintro e w' ⟨k1,s',k2,k3⟩
   exact ⟨0,s',k1,⟨rfl,k2⟩,k3⟩
 ·rintro e w' ⟨c,s',h1,⟨rfl,h2⟩,h3⟩
  exact ⟨h1,s',h2,h3⟩
end Go.Proofs.YtihbngfbcnojcaaGreat
namespace Go.Proofs.YtihbngfbcnojcaaGreat
open Go.RowKit Go.Maps Go.Sort Go.Shelf Tryz
def Ysm:Go.Shelf.Ren:=⟨fun | 7=>115 | 10=>163 | n=>n,fun | 23=>128 | 26=>3 | 3=>158 | 28=>187 | 0=>0 | 27=>186 | 33=>49 | 4=>4 | n=>n,fun | n=>n⟩
theorem Ysn:Go.Proofs.SlLaysZI.n7 prog Ysm where
 mixed:=by kernel_rfl
 f7:=⟨Tryz.f115.name,by kernel_rfl,func115.trans (congrArg some (by kernel_rfl))⟩
 f10:=⟨Tryz.f163.name,by kernel_rfl,func163.trans (congrArg some (by kernel_rfl))⟩
 t0:=underlying0
 a0:=Tryz.isAgg0
 z0:=Tryz.sizeOf0
 v0:=Tryz.zeroValue0
 t4:=underlying4
 a4:=Tryz.isAgg4
 z4:=Tryz.sizeOf4
 v4:=Tryz.zeroValue4
 t23:=underlying128
 a23:=Tryz.isAgg128
 z23:=Tryz.sizeOf128
 v23:=Tryz.zeroValue128
 t26:=underlying3
 a26:=Tryz.isAgg3
 z26:=Tryz.sizeOf3
 v26:=Tryz.zeroValue3
 t27:=underlying186
 a27:=Tryz.isAgg186
 z27:=Tryz.sizeOf186
 v27:=Tryz.zeroValue186
 t28:=underlying187
 a28:=Tryz.isAgg187
 z28:=Tryz.sizeOf187
 v28:=Tryz.zeroValue187
 t33:=underlying49
 a33:=Tryz.isAgg49
 z33:=Tryz.sizeOf49
 v33:=Tryz.zeroValue49
def Yso:Go.Shelf.Ren:=⟨fun | 6=>114 | 8=>161 | 9=>162 | 11=>209 | 13=>205 | 12=>210 | 23=>232 | 24=>233 | 14=>236 | 15=>237 | 16=>238 | 17=>239 | 18=>240 | 19=>241 | 20=>242 | 21=>243 | 22=>244 | 25=>251 | 26=>246 | 27=>247 | 28=>252 | 29=>253 | 30=>254 | 31=>256 | n=>n,fun | 26=>3 | 28=>187 | 24=>184 | 0=>0 | 3=>3 | 37=>213 | 48=>124 | 50=>53 | 4=>4 | 40=>316 | 39=>315 | 45=>249 | 5=>5 | 9=>9 | 51=>330 | 55=>333 | 57=>338 | 58=>339 | 33=>49 | n=>n,fun | n=>n⟩
theorem Yz9:Go.Proofs.SlLaysZI.n6 prog Yso where
 mixed:=by kernel_rfl
 f6:=⟨Tryz.f114.name,by kernel_rfl,func114.trans (congrArg some (by kernel_rfl))⟩
 f8:=⟨Tryz.f161.name,by kernel_rfl,func161.trans (congrArg some (by kernel_rfl))⟩
 f11:=⟨Tryz.f209.name,by kernel_rfl,func209.trans (congrArg some (by kernel_rfl))⟩
 t0:=underlying0
 a0:=Tryz.isAgg0
 z0:=Tryz.sizeOf0
 v0:=Tryz.zeroValue0
 t24:=underlying184
 a24:=Tryz.isAgg184
 z24:=Tryz.sizeOf184
 v24:=Tryz.zeroValue184
 t26:=underlying3
 a26:=Tryz.isAgg3
 z26:=Tryz.sizeOf3
 v26:=Tryz.zeroValue3
 t28:=underlying187
 a28:=Tryz.isAgg187
 z28:=Tryz.sizeOf187
 v28:=Tryz.zeroValue187
 i26:=by kernel_rfl
def Y0a:Go.Shelf.Ren:=⟨fun | 5=>162 | 8=>205 | 7=>210 | 19=>232 | 20=>233 | 10=>236 | 11=>237 | 12=>238 | 13=>239 | 14=>240 | 15=>241 | 16=>242 | 17=>243 | 18=>244 | 30=>251 | 31=>246 | 32=>247 | 33=>252 | 34=>253 | 35=>254 | 40=>256 | n=>n,fun | 23=>184 | 25=>3 | 3=>3 | 32=>213 | 22=>184 | 0=>0 | 44=>124 | 46=>53 | 4=>4 | 36=>316 | 35=>315 | 41=>249 | 5=>5 | 9=>9 | 53=>330 | 57=>333 | 63=>338 | 64=>339 | n=>n,fun | n=>n⟩
theorem Ysp:Go.Proofs.SlLaysM.n5 prog Y0a where
 mixed:=by kernel_rfl
 f5:=⟨Tryz.f162.name,by kernel_rfl,func162.trans (congrArg some (by kernel_rfl))⟩
 f7:=⟨Tryz.f210.name,by kernel_rfl,func210.trans (congrArg some (by kernel_rfl))⟩
 f8:=func205.trans (congrArg some (by kernel_rfl))
 f10:=⟨Tryz.f236.name,by kernel_rfl,func236.trans (congrArg some (by kernel_rfl))⟩
 f11:=⟨Tryz.f237.name,by kernel_rfl,func237.trans (congrArg some (by kernel_rfl))⟩
 f12:=⟨Tryz.f238.name,by kernel_rfl,func238.trans (congrArg some (by kernel_rfl))⟩
 f13:=⟨Tryz.f239.name,by kernel_rfl,func239.trans (congrArg some (by kernel_rfl))⟩
 f14:=⟨Tryz.f240.name,by kernel_rfl,func240.trans (congrArg some (by kernel_rfl))⟩
 f15:=⟨Tryz.f241.name,by kernel_rfl,func241.trans (congrArg some (by kernel_rfl))⟩
 f16:=⟨Tryz.f242.name,by kernel_rfl,func242.trans (congrArg some (by kernel_rfl))⟩
 f17:=⟨Tryz.f243.name,by kernel_rfl,func243.trans (congrArg some (by kernel_rfl))⟩
 f18:=⟨Tryz.f244.name,by kernel_rfl,func244.trans (congrArg some (by kernel_rfl))⟩
 f19:=func232.trans (congrArg some (by kernel_rfl))
 f20:=func233.trans (congrArg some (by kernel_rfl))
 f30:=⟨Tryz.f251.name,by kernel_rfl,func251.trans (congrArg some (by kernel_rfl))⟩
 f31:=func246.trans (congrArg some (by kernel_rfl))
 f32:=func247.trans (congrArg some (by kernel_rfl))
 f33:=⟨Tryz.f252.name,by kernel_rfl,func252.trans (congrArg some (by kernel_rfl))⟩
 f34:=⟨Tryz.f253.name,by kernel_rfl,func253.trans (congrArg some (by kernel_rfl))⟩
 f35:=⟨Tryz.f254.name,by kernel_rfl,func254.trans (congrArg some (by kernel_rfl))⟩
 f40:=⟨Tryz.f256.name,by kernel_rfl,func256.trans (congrArg some (by kernel_rfl))⟩
 t0:=underlying0
 a0:=Tryz.isAgg0
 z0:=Tryz.sizeOf0
 v0:=Tryz.zeroValue0
 t3:=underlying3
 a3:=Tryz.isAgg3
 z3:=Tryz.sizeOf3
 v3:=Tryz.zeroValue3
 t4:=underlying4
 a4:=Tryz.isAgg4
 z4:=Tryz.sizeOf4
 v4:=Tryz.zeroValue4
 t5:=underlying5
 a5:=Tryz.isAgg5
 z5:=Tryz.sizeOf5
 v5:=Tryz.zeroValue5
 t9:=underlying9
 a9:=Tryz.isAgg9
 z9:=Tryz.sizeOf9
 v9:=Tryz.zeroValue9
 t22:=underlying184
 a22:=Tryz.isAgg184
 z22:=Tryz.sizeOf184
 v22:=Tryz.zeroValue184
 t23:=underlying184
 a23:=Tryz.isAgg184
 z23:=Tryz.sizeOf184
 v23:=Tryz.zeroValue184
 t25:=underlying3
 a25:=Tryz.isAgg3
 z25:=Tryz.sizeOf3
 v25:=Tryz.zeroValue3
 t32:=underlying213
 a32:=Tryz.isAgg213
 z32:=Tryz.sizeOf213
 v32:=Tryz.zeroValue213
 t35:=underlying315
 a35:=Tryz.isAgg315
 z35:=Tryz.sizeOf315
 v35:=Tryz.zeroValue315
 t36:=underlying316
 a36:=Tryz.isAgg316
 z36:=Tryz.sizeOf316
 v36:=Tryz.zeroValue316
 t41:=underlying249
 a41:=Tryz.isAgg249
 z41:=Tryz.sizeOf249
 v41:=Tryz.zeroValue249
 t44:=underlying124
 a44:=Tryz.isAgg124
 z44:=Tryz.sizeOf124
 v44:=Tryz.zeroValue124
 t46:=underlying53
 a46:=Tryz.isAgg53
 z46:=Tryz.sizeOf53
 v46:=Tryz.zeroValue53
 t53:=underlying330
 a53:=Tryz.isAgg330
 z53:=Tryz.sizeOf330
 v53:=Tryz.zeroValue330
 t57:=underlying333
 a57:=Tryz.isAgg333
 z57:=Tryz.sizeOf333
 v57:=Tryz.zeroValue333
 t63:=underlying338
 a63:=Tryz.isAgg338
 z63:=Tryz.sizeOf338
 v63:=Tryz.zeroValue338
 t64:=underlying339
 a64:=Tryz.isAgg339
 z64:=Tryz.sizeOf339
 v64:=Tryz.zeroValue339
theorem Y0b (m:Nat):AnyZI.SortsIn prog Yso Fence.wide m:=
 ⟨fun blk off cap ss W hH hblk hsz=>callsIn_wide.2 (AnyM.slices_Sort_int Ysp blk off cap ss W hH hblk hsz),
  fun p cap W=>callsIn_wide.2 (AnyM.slices_Sort_int_none Ysp p cap W)⟩
theorem Y0c (mb:Option Nat) (W:World):Calls prog 115 #[.map mb] W fun e w'=>e=.returned (.func (.func 163) #[] #[.pointer (some ⟨W.heap.size,0,none⟩)])∧w'=W.alloc (.cells #[.map mb] 128):=
 (callsIn_wide (n:=5)).1 (AnyZI.keys_in Ysn Fence.wide 5 trivial rfl mb W)
theorem Y0d {H:Type} (b nn:Nat) (D0:DataW H) (R:Value→Option (DataW H×List MemPlace)) (w:World) (hown:w.ownsMap prog 3 R b nn D0) (hmax:Maps.size D0≤maxLen) (hbytes:Maps.size D0*8≤140737488355328):
 Calls prog 114 #[.func (.func 163) #[] #[.pointer (some ⟨w.heap.size,0,none⟩)]] (w.alloc (.cells #[.map (some b)] 128)) fun e w'=>∃ (v:Value) (ss:List Int),e=.returned v∧ss.Perm (intKeys D0) ∧
  w'.ownsRow (w.alloc (.cells #[.map (some b)] 128)).heap.size 3 1 v ss.length ((ss.mergeSort (fun x y=>decide (x≤y))).map encZ)∧(v=.slice none 0 0↔ss=[])∧Below (w.alloc (.cells #[.map (some b)] 128)).heap.size (w.alloc (.cells #[.map (some b)] 128)) w':=by
 have hbl:=hown.lt
 have hseq:SeqGives Fence.wide 2 prog 163 #[.pointer (some ⟨w.heap.size,0,none⟩)] encZ (fun ss=>ss.Perm (intKeys D0)) (Maps.size D0) (w.alloc (.cells #[.map (some b)] 128)):=
  AnyZI.keys_gives (ρ:=Ysm) { Ysn with } Fence.wide _ trivial rfl (by omega) w.heap.size b nn D0 _ (by simp) (by simp) (by
   obtain ⟨es,clock,hb,Ft,hs,hD⟩:=hown;exact ⟨es,clock,(Below.heap_alloc _ _ b hbl).trans hb,Ft,hs,hD⟩)
 exact (callsIn_wide (n:=5)).1 (AnyZI.sorted_in Yz9 Fence.wide 5 trivial trivial trivial trivial rfl (by omega) (Y0b _) (enters_of func162 (by kernel_rfl) rfl) 163 #[.pointer (some ⟨w.heap.size,0,none⟩)] trivial (enters_of func163 (by kernel_rfl) rfl) _ _ hmax hbytes _ hseq)
end Go.Proofs.YtihbngfbcnojcaaGreat
namespace Go.Proofs.YtihbngfbcnojcaaGreat
open Go.RowKit Tryz
variable {M:DataW Value} {count:Int} {ks:List Int} {done:List Nat} {b n:Nat} {s s' s0:Sv} {w w' w1:World}
structure Ylz (M:DataW Value) (ks:List Int):Prop where
 rise:ks.Pairwise (· < ·)
 mem:∀ k,k∈ks↔Maps.has M (.int .i64 k)=true
 len:ks.length=Maps.size M
theorem Y0e (hM:Yap w 3 b n M) {ss:List Int} (hp:ss.Perm (Go.intKeys M)):
 ∃ ks:List Int,Ylz M ks∧(ss.mergeSort (fun x y=>decide (x≤y))).map Go.encZ=ks.map (Value.int .i64):=by
 obtain ⟨es,hD,hpw,_⟩:=World.ownsMap.entries hM (Maps.int_keyed underlying3)
 obtain ⟨es',hD',hko⟩:=World.ownsMap.keysOf hM
 obtain rfl:es=es':=by rw [hD] at hD';simpa using hD'
 subst hD
 have hint:∀ p∈es,∃ x,p.1=.int .i64 x:=fun p hp=>by
  obtain ⟨v,hv⟩:=hko p hp;obtain ⟨x,_,hx,_⟩:=Maps.keyOf_int_inv underlying3 hv;exact ⟨x,hx⟩
 have hnd:(Go.intKeys (.map es)).Nodup:=by
  show (es.map fun p=>Go.intOf p.1).Nodup;refine List.pairwise_map.2 (hpw.imp_of_mem fun {p q} hp' hq' hne e=>hne ?_);obtain ⟨a,ha⟩:=hint p hp';obtain ⟨b,hb⟩:=hint q hq';rw [ha,hb] at e ⊢;exact congrArg _ e
 have hmem:∀ x:Int,x∈Go.intKeys (.map es)↔Maps.has (.map es) (.int .i64 x)=true:=fun x=>by
  rw [Maps.has_eq,List.any_eq_true];show x∈es.map (fun p=>Go.intOf p.1)↔_;rw [List.mem_map];constructor
  ·rintro ⟨p,hp',rfl⟩
   obtain ⟨a,ha⟩:=hint p hp';exact ⟨p,hp',by rw [ha];simp [Lit.sameKey,Go.intOf]⟩
  ·rintro ⟨p,hp',hs⟩
   obtain ⟨a,ha⟩:=hint p hp';rw [ha] at hs;exact ⟨p,hp',by rw [ha];simpa [Lit.sameKey,Go.intOf] using hs⟩
 have hlen:(Go.intKeys (.map es)).length=es.length:=by
  show (es.map fun p=>Go.intOf p.1).length=_;simp
 have hms:=(List.mergeSort_perm ss (fun x y=>decide (x≤y))).trans hp
 have hpws:(ss.mergeSort (fun x y=>decide (x≤y))).Pairwise (fun a b=>decide (a≤b)=true):=List.pairwise_mergeSort (fun a b c h1 h2=>by simp only [decide_eq_true_eq] at *;omega) (fun a b=>by simp only [Bool.or_eq_true,decide_eq_true_eq];omega) ss
 generalize ss.mergeSort (fun x y=>decide (x≤y))=st at hms hpws ⊢
 have hnd2:st.Nodup:=hms.nodup_iff.2 hnd
 refine ⟨st,⟨?_,fun k=>?_,?_⟩,?_⟩
 ·refine (hpws.and hnd2).imp (fun {a b} h=>?_)
  have h1:a≤b:=by simpa using h.1
  have:=h.2;omega
 ·rw [hms.mem_iff];exact hmem k
 ·rw [hms.length_eq,hlen];rfl
 ·rfl
theorem Y0f (hM:Yap w 3 b n M) (hn:n≤100000):
 Calls prog 114 #[.func (.func 163) #[] #[.pointer (some ⟨w.heap.size,0,none⟩)]] (w.alloc (.cells #[.map (some b)] 128)) fun e w'=>∃ v ks,e=.returned v∧Ylz M ks∧w'.ownsRow w.heap.size 3 1 v ks.length (ks.map (Value.int .i64))∧Below w.heap.size w w':=by
 have hsz:Maps.size M≤n:=World.ownsMap.size_le hM
 refine (Y0d b n M Yb0 w hM (by unfold maxLen;omega) (by omega)).mono ?_
 rintro e w' ⟨v,ss,rfl,h1,h2,_,h3⟩
 obtain ⟨ks,k1,k2⟩:=Y0e hM h1
 have hl:ks.length=ss.length:=by
  have:=congrArg List.length k2;simp at this;exact this.symm
 rw [k2,←hl] at h2
 exact ⟨v,ks,rfl,k1,Yfg h2 (by simp),((Below.refl _ w).alloc (Nat.le_refl _) _).trans (h3.mono (by simp))⟩
structure Ybg (w w':World) (s s':Sv):Prop where
 lies:Yan w' s'
 grown:Ydb s s' w.heap.size
 off:∀ q,q<w.heap.size→(∀ tag,s.blk tag≠some q)→w'.heap[q]? = w.heap[q]?
 below:Below 0 w w'
theorem Ybg.refl (h:Yan w s):Ybg w w s s:=⟨h,Ydb.refl _ _,fun _ _ _=>rfl,Below.refl _ _⟩
theorem Ybg.trans {w2:World} {s1 s2:Sv} (h:Ybg w w1 s s1) (k:Ybg w1 w2 s1 s2):Ybg w w2 s s2:=by
 have hz:=h.below.size;refine ⟨k.lies,h.grown.trans k.grown hz,fun q hq hn=>?_,h.below.trans k.below⟩;refine (k.off q (by omega) (fun tag ht=>?_)).trans (h.off q hq hn);rcases h.grown tag q ht with h1 | h1
 ·exact hn tag h1
 ·omega
theorem Ybg.of_below (h:Yan w s) (hb:Below w.heap.size w w'):Ybg w w' s s:=⟨h.below hb,Ydb.refl _ _,fun q hq _=>hb.block q hq,hb.mono (Nat.zero_le _)⟩
theorem Ybg.goes (h:Ybg w w' s s') (g:Yar s'):Yab w w' s s':=⟨h.lies,g,h.grown,h.off,h.below⟩
theorem Ybg.drew (h:Ybg w w' s s'):Ybg w w'.drew s s':=⟨h.lies.frame (fun _ _ _=>rfl) (Nat.le_refl _),h.grown,h.off,h.below.drew⟩
def Yew (s:Sv):Sv:={ s with count:=s.count+1 }
def Ygu (s:Sv) (A:Nat) (S:List Value) (v':Value):Sv:={ s with D:=s.D.setIfInBounds 27776 v',ws:=s.ws ++ [(A,S)],v:=v' }
theorem Y0g (h:Yan w s) (hc:0≤s.count∧s.count<4294967295):
 Calls prog 124 #[.pointer (some ⟨s.vb,0,none⟩)] w fun e w'=>e=.returned (.agg #[.int .u32 s.start,.int .u32 (s.count+1)])∧Ybg w w' s (Yew s):=by
 refine (Ymw s.vb s.db s.start s.count s.turn w hc.1 hc.2 (h.comp .vol)).mono ?_
 rintro e w' ⟨rfl,h1,h2,h3⟩
 refine ⟨rfl,h.step (fun tag=>tag=.vol) ?_ ?_ ?_ ?_ ?_ h3.size,fun tag k hk=>.inl hk,fun q hq hn=>h2 q hq (fun e=>hn .vol (by rw [e];rfl)),h3⟩
 ·intro tag ht
  refine ⟨rfl,fun W hW=>?_⟩
  cases tag using Tag.elim with
  | vol=>exact absurd rfl ht
  | _=>exact hW
 ·intro tag k ht hk
  exact h2 k (h.lt tag k hk) (fun e=>ht (h.apart tag .vol k hk (by rw [e];rfl)))
 ·rintro tag rfl
  exact h1
 ·intro tag k _ hk
  exact .inl hk
 ·intro a b k ha hb _ _
  rw [ha,hb]
theorem Ysq (h:Yan w s) (hdv:s.D[27776]? = some s.v) (hf:s.D[27777]? = some (.int .i64 0)) (hn:s.ws.length≤1000) (A:Nat) (S:List Value) (hS:S.length=64) (h1:∀ u∈S,u.oneCell'=true):
 Calls prog 119 #[.pointer (some ⟨s.db,0,none⟩),.int .i64 (A:Int),.agg S.toArray] w fun e w'=>e=.returned (.tuple #[])∧∃ v',Ybg w w' s (Ygu s A S v'):=by
 have hown:w.ownsRow (s.db+1) 143 65 s.v s.ws.length (Ycs s.ws):=h.comp .uns
 have hdw:s.db<w.heap.size:=h.lt .disk _ rfl
 refine (Ymq s.db (s.db+1) s.ws.length s.v (Ycs s.ws) (A:Int) S s.D w hS h1 (by omega) (by omega) hown (by omega) (h.comp .disk) hdv hf).mono ?_
 rintro e w' ⟨rfl,g,cap,k1,k2,k3,k4,k5⟩
 obtain ⟨v',hv'⟩:∃ v',v'=Value.slice (some ⟨g,0,none⟩) (s.ws.length+1) cap:=⟨_,rfl⟩
 rw [←hv'] at k1 k2
 have hvo:v'.ownBlock=some g:=by rw [hv'];rfl
 have hB:∀ tag,tag≠.uns→(Ygu s A S v').blk tag=s.blk tag:=fun tag ht=>by
  cases tag using Tag.elim with
  | uns=>exact absurd rfl ht
  | _=>rfl
 have hgr:Ydb s (Ygu s A S v') w.heap.size:=fun tag k hk=>by
  by_cases hu:tag=.uns
  ·subst hu
   have hk':v'.ownBlock=some k:=hk;rw [hvo] at hk';simp only [Option.some.injEq] at hk';subst hk';exact k4.imp id id
  ·rw [hB tag hu] at hk;exact .inl hk
 have k1':w'.ownsRow (s.db+1) 143 65 v' (s.ws ++ [(A,S)]).length (Ycs (s.ws ++ [(A,S)])):=by
  rw [List.length_append,Yrp];exact k1
 have hul:=k1.lt
 refine ⟨rfl,v',⟨h.step (fun tag=>tag=.disk∨tag=.uns) ?_ ?_ ?_ ?_ ?_ k5.size,hgr,fun q hq hn=>k3 q hq (fun e=>hn .disk (by rw [e];rfl)) (fun e=>hn .uns e),k5⟩⟩
 ·intro tag ht
  simp only [not_or] at ht;refine ⟨hB tag ht.2,fun W hW=>?_⟩
  cases tag using Tag.elim with
  | disk=>exact absurd rfl ht.1
  | uns=>exact absurd rfl ht.2
  | _=>exact hW
 ·intro tag k ht hk
  simp only [not_or] at ht;exact k3 k (h.lt tag k hk) (fun e=>ht.1 (h.apart tag .disk k hk (by rw [e];rfl))) (fun e=>ht.2 (h.apart tag .uns k hk e))
 ·rintro tag (rfl | rfl)
  ·exact k2
  ·exact k1'
 ·intro tag k htg hk
  rcases hgr tag k hk with h5 | h5
  ·exact .inl h5
  ·rcases htg with rfl | rfl
   ·exact .inl hk
   ·exact .inr ⟨h5,(hul k hk).2⟩
 ·rintro a b k (rfl | rfl) (rfl | rfl) h5 h6
  ·rfl
  ·have h7:v'.ownBlock=some k:=h6
   have h8:some s.db=some k:=h5;simp only [Option.some.injEq] at h8;have:=(hul k h7).1;omega
  ·have h7:v'.ownBlock=some k:=h5
   have h8:some s.db=some k:=h6;simp only [Option.some.injEq] at h8;have:=(hul k h7).1;omega
  ·rfl
theorem Ysr {k:TypeId} (h:Yap w k b n M) (t e:TypeId) (ht:prog.underlying t=some (.map k e)) (ty:TypeId):∃ w',(Builtin.clear_ #[t] ty #[.map (some b)]).run prog w=.ok (.tuple #[]) w'∧Yap w' k b 0 (.map [])∧(∀ q,q≠b→w'.heap[q]? = w.heap[q]?)∧w'.heap.size=w.heap.size∧Below 0 w w':=by
 obtain ⟨es,clock,hb,hfit,_⟩:=h;have hr:(Builtin.clear_ #[t] ty #[.map (some b)]).run prog w=.ok (.tuple #[]) { w with heap:=w.heap.setIfInBounds b (.map #[] clock) }:=by
  simp [Builtin.clear_,run_underlying ht,Go.MapKept.run_getObj_map hb,Go.MapKept.run_setObj_map _ hb,Result.andThen]
 have hs:=Go.MapKept.heap_set (o':=.map #[] clock) hb;refine ⟨_,hr,⟨#[],clock,hs.1,?_,Nat.le_refl _,rfl⟩,hs.2,by simp,rfl,rfl,rfl,by simp,fun q hq=>by omega⟩;exact ⟨by simp,Go.MapKept.stamped_empty clock,by simp⟩
def Yd1 (a b:Int) (ps:Yaf):Ybq:=⟨a,b,(Ybo ps 0).1,(Ybo ps 0).2,(Ybo ps 1).1,(Ybo ps 1).2,(Ybo ps 2).1,(Ybo ps 2).2,(Ybo ps 3).1,(Ybo ps 3).2⟩
theorem Y0h (a b:Int):∀ ps:Yaf,ps.length≤4→(∀ p∈ps,1≤p.1.size)→(Yd1 a b ps).pairs=ps:=by
 have hne:∀ k:ByteArray,1≤k.size→k≠ByteArray.empty:=fun k h e=>by rw [e] at h;simp at h
 intro ps hl hk;match ps,hl,hk with
 | [],_,_=>rfl
 | [p],_,hk=>
  have h0:=hne p.1 (hk p (by simp));simp [Yd1,Ybq.pairs,Ycq,Yem,Ybo,h0]
 | [p,q],_,hk=>
  have h0:=hne p.1 (hk p (by simp));have h1:=hne q.1 (hk q (by simp));simp [Yd1,Ybq.pairs,Ycq,Yem,Ybo,h0,h1]
 | [p,q,r],_,hk=>
  have h0:=hne p.1 (hk p (by simp));have h1:=hne q.1 (hk q (by simp));have h2:=hne r.1 (hk r (by simp));simp [Yd1,Ybq.pairs,Ycq,Yem,Ybo,h0,h1,h2]
 | [p,q,r,t],_,hk=>
  have h0:=hne p.1 (hk p (by simp));have h1:=hne q.1 (hk q (by simp));have h2:=hne r.1 (hk r (by simp));have h3:=hne t.1 (hk t (by simp));simp [Yd1,Ybq.pairs,Ycq,Yem,Ybo,h0,h1,h2,h3]
 | _ :: _ :: _ :: _ :: _ :: _,h,_=>simp at h
theorem Y0i (c0 c1:Ybq):(Ya3.of c0 c1 2).at'<2:=by
 unfold Ya3.of Ya3.step Ya3.start;repeat' split
 all_goals simp
theorem Yss {start:Int} {c:Ybq} (h:Yeb start count c):Yea start (count+1) c.a c.b=true∧Yea c.a c.b start (count+1)=false:=by
 unfold Yea orI Yev;rcases h with h | ⟨h1,h2⟩
 ·have e1:¬start<c.a:=by omega
  have e2:¬c.a=start:=by omega
  simp [h,e1]
 ·rw [h1]
  have e1:¬count+1<c.b:=by omega
  have e2:c.b<count+1:=by omega
  simp [e1,e2]
theorem Y0j {start:Int} (h:0≤start∧0≤count):Yea start (count+1) 0 0=true:=by
 unfold Yea orI Yev;have e1:¬start<0:=by omega
 have e2:¬count+1<0:=by omega
 have e3:(0:Int)<count+1:=by omega
 by_cases h0:0<start
 ·simp [h0,e1]
 ·simp [h0,e1,e2,e3]
def Ygv (cp:Ybq×Ybq) (t:Nat) (c:Ybq):Ybq×Ybq:=if t=0 then (c,cp.2) else (cp.1,c)
theorem Y0k {start:Int} {cp:Ybq×Ybq} (h0:Yeb start count cp.1) (h1:Yeb start count cp.2) (hz:0≤start∧0≤count) (t:Nat) (ht:t<2) (c:Ybq) (hc:c.a=start∧c.b=count+1):(Ya3.of (Ygv cp t c).1 (Ygv cp t c).2 2).rec'=c.pairs∧(Ya3.of (Ygv cp t c).1 (Ygv cp t c).2 2).at'=t:=by
 have a0:=Yss h0;have a1:=Yss h1;have az:=Y0j hz;have h01:t=0∨t=1:=by omega
 rcases h01 with rfl | rfl
 ·simp only [Ygv,if_true,Ya3.of,Ya3.step,Ya3.start,hc.1,hc.2,az,a1.2]
  exact ⟨rfl,rfl⟩
 ·simp only [Ygv,Ya3.of,Ya3.step,Ya3.start,hc.1,hc.2,show ¬(1:Nat)=0 by omega,if_false]
  by_cases hb:Yea cp.1.a cp.1.b 0 0=true
  ·rw [if_pos hb]
   show (if Yea start (count+1) cp.1.a cp.1.b=true then _ else _:Ya3).rec'=_∧(if Yea start (count+1) cp.1.a cp.1.b=true then _ else _:Ya3).at'=_;rw [if_pos a0.1];exact ⟨rfl,rfl⟩
  ·rw [if_neg hb]
   show (if Yea start (count+1) 0 0=true then _ else _:Ya3).rec'=_∧(if Yea start (count+1) 0 0=true then _ else _:Ya3).at'=_;rw [if_pos az];exact ⟨rfl,rfl⟩
structure Fl (s0 s:Sv) (done:List Nat):Prop where
 same:∃ c D ws v cp,s = { s0 with count:=c,D:=D,ws:=ws,v:=v,cp:=cp }
 dsz:s.D.size=27779
 dv:s.D[27776]? = some s.v
 fuse:s.D[27777]? = some (.int .i64 0)
 ok:Ydn s.ws
 db:∀ i u,i<27776→s.D[i]? = some u→Ycm u
 wb:∀ p∈s.ws,∀ u∈p.2,Ycm u
 wn:s.ws.length=2*done.length
 ct:s.count=s0.count+done.length
 on:∀ n,n<8→Ykc s.D s.ws n (s.cp n).1 (s.cp n).2∧Yeb s0.start s.count (s.cp n).1∧Yeb s0.start s.count (s.cp n).2
 old:∀ n,n∉done→s.cp n=s0.cp n
 new:∀ n,n<8→n∈done→s0.cont n=(Ya3.of (s.cp n).1 (s.cp n).2 2).rec'
 logd:Yi6 s.D s.ws s0.start s0.len s0.log
theorem Fl.start (g:Yar s) (hw:s.ws=[]):Fl s s []:=
 ⟨⟨s.count,s.D,s.ws,s.v,s.cp,rfl⟩,g.dsz,g.dv,g.fuse,g.ok,g.db,g.wb,by rw [hw];rfl,by simp,fun n hn=>⟨(g.load n hn).on,(g.load n hn).old⟩,fun _ _=>rfl,(fun n _ h=>by cases h),g.logd⟩
theorem Y0l (D:Array Value) (ws:List (Nat×List Value)) (a A:Nat) (S0 S1:List Value) (v v':Value) (ha:a<434):Yay ((D.setIfInBounds 27776 v).setIfInBounds 27776 v') (ws ++ [(A,S0)] ++ [(A+1,S1)]) a=if a=A then S0 else if a=A+1 then S1 else Yay D ws a:=by
 by_cases h1:a=A+1
 ·subst h1
  rw [Yny,if_neg (by omega),if_pos rfl]
 ·rw [Yfa _ _ _ _ _ _ (fun e=>h1 e.symm) ha]
  by_cases h0:a=A
  ·subst h0
   rw [Yny,if_pos rfl]
  ·rw [Yfa _ _ _ _ _ _ (fun e=>h0 e.symm) ha,if_neg h0,if_neg h1]
def Ygw (s:Sv) (n t:Nat) (c:Ybq) (S0 S1:List Value) (v v':Value):Sv:=
 { s with count:=s.count+1,D:=(s.D.setIfInBounds 27776 v).setIfInBounds 27776 v',ws:=s.ws ++ [(2+(n*2+t)*2,S0)] ++ [(2+(n*2+t)*2+1,S1)],v:=v',cp:=fun m=>if m=n then Ygv (s.cp n) t c else s.cp m }
theorem Fl.step (F:Fl s0 s done) (g:Yar s0) (n:Nat) (hn:n<8) (hnd:n∉done) (hd:done.length≤8) (hne:∀ p∈s0.cont n,1≤p.1.size) (t:Nat) (ht:t<2) (v v':Value):
 Fl s0 (Ygw s n t (Yd1 s0.start (s.count+1) (s0.cont n)) (Yam s0.start (s.count+1) (Ybb (s0.cont n) 0)) (Yam s0.start (s.count+1) (Ybb (s0.cont n) 1)) v v') (done ++ [n]):=by
 obtain ⟨r1,r2,r3⟩:=g.rise n hn
 have hct:=g.ct
 have hac:=g.ac
 have hln:=g.ln
 have hsc:=F.ct
 have hcnt:0≤s.count+1∧s.count+1<4294967296:=by omega
 have hfit:=fun j=>Yh8 r3 j
 have hcf:(Yd1 s0.start (s.count+1) (s0.cont n)).Fits:=⟨⟨g.st.1,g.st.2,hcnt.1,hcnt.2⟩,(hfit 0).1,(hfit 0).2,(hfit 1).1,(hfit 1).2,(hfit 2).1,(hfit 2).2,(hfit 3).1,(hfit 3).2⟩
 have hl:∀ i,(Yam s0.start (s.count+1) (Ybb (s0.cont n) i)).length=64:=fun i=>Yeh _ _ _ (by rw [Ylm r3];omega)
 have ho:∀ i,∀ u∈Yam s0.start (s.count+1) (Ybb (s0.cont n) i),u.oneCell'=true:=fun i=>Yfy _ _ _ (Yi3 _ i)
 have hby:∀ i,∀ u∈Yam s0.start (s.count+1) (Ybb (s0.cont n) i),Ycm u:=fun i=>Ylt _ _ _ (Ynm _ _ _ _ (hfit _).1 (hfit _).2 (hfit _).1 (hfit _).2)
 obtain ⟨A,hA⟩:∃ A,A=2+(n*2+t)*2:=⟨_,rfl⟩
 have hA4:A+1<34:=by omega
 have hrd:=fun a ha=>Y0l s.D s.ws a A (Yam s0.start (s.count+1) (Ybb (s0.cont n) 0)) (Yam s0.start (s.count+1) (Ybb (s0.cont n) 1)) v v' ha
 have hzz:=F.dsz
 have hD2:((s.D.setIfInBounds 27776 v).setIfInBounds 27776 v').size=27779:=by rw [Array.size_setIfInBounds,Array.size_setIfInBounds];exact hzz
 have hpe:∀ m,m<8→Yeb s0.start (s.count+1) (s.cp m).1∧Yeb s0.start (s.count+1) (s.cp m).2:=fun m hm=>⟨(F.on m hm).2.1.mono (by omega),(F.on m hm).2.2.mono (by omega)⟩
 refine ⟨?_,?_,?_,?_,?_,?_,?_,?_,?_,?_,?_,?_,?_⟩
 ·obtain ⟨c,D,ws,w,cp,hs⟩:=F.same
  unfold Ygw;rw [hs];exact ⟨_,_,_,_,_,rfl⟩
 ·exact hD2
 ·show ((s.D.setIfInBounds 27776 v).setIfInBounds 27776 v')[27776]? = some v'
  exact Array.getElem?_setIfInBounds_self_of_lt (by rw [Array.size_setIfInBounds,hzz];omega)
 ·show ((s.D.setIfInBounds 27776 v).setIfInBounds 27776 v')[27777]? = _
  rw [Array.getElem?_setIfInBounds_ne (by omega),Array.getElem?_setIfInBounds_ne (by omega)];exact F.fuse
 ·intro p hp
  have hp':p∈s.ws ++ [(2+(n*2+t)*2,_)] ++ [(2+(n*2+t)*2+1,_)]:=hp;rw [←hA] at hp';simp only [List.mem_append,List.mem_singleton] at hp';rcases hp' with (hp' | rfl) | rfl
  ·exact F.ok p hp'
  ·exact ⟨by show A<434;omega,hl 0,ho 0⟩
  ·exact ⟨by show A+1<434;omega,hl 1,ho 1⟩
 ·intro i u hi hu
  have hu':((s.D.setIfInBounds 27776 v).setIfInBounds 27776 v')[i]? = some u:=hu;rw [Array.getElem?_setIfInBounds_ne (by omega),Array.getElem?_setIfInBounds_ne (by omega)] at hu';exact F.db i u hi hu'
 ·intro p hp
  have hp':p∈s.ws ++ [(2+(n*2+t)*2,_)] ++ [(2+(n*2+t)*2+1,_)]:=hp;simp only [List.mem_append,List.mem_singleton] at hp';rcases hp' with (hp' | rfl) | rfl
  ·exact F.wb p hp'
  ·exact hby 0
  ·exact hby 1
 ·show (s.ws ++ [_] ++ [_]).length=_
  have:=F.wn;simp only [List.length_append,List.length_singleton];omega
 ·show s.count+1=_
  rw [hsc];simp;omega
 ·intro m hm
  obtain ⟨⟨⟨b1,b2⟩,⟨b3,b4⟩,b5,b6⟩,_⟩:=F.on m hm;obtain ⟨e1,e2⟩:=hpe m hm;have hrd2:∀ a,a<434→Yay (Ygw s n t (Yd1 s0.start (s.count+1) (s0.cont n)) (Yam s0.start (s.count+1) (Ybb (s0.cont n) 0)) (Yam s0.start (s.count+1) (Ybb (s0.cont n) 1)) v v').D (Ygw s n t (Yd1 s0.start (s.count+1) (s0.cont n)) (Yam s0.start (s.count+1) (Ybb (s0.cont n) 0)) (Yam s0.start (s.count+1) (Ybb (s0.cont n) 1)) v v').ws a=if a=A then Yam s0.start (s.count+1) (Ybb (s0.cont n) 0) else if a=A+1 then Yam s0.start (s.count+1) (Ybb (s0.cont n) 1) else Yay s.D s.ws a:=fun a ha=>by
   have h9:=hrd a ha;rw [hA] at h9 ⊢;exact h9
  have hcp:(Ygw s n t (Yd1 s0.start (s.count+1) (s0.cont n)) (Yam s0.start (s.count+1) (Ybb (s0.cont n) 0)) (Yam s0.start (s.count+1) (Ybb (s0.cont n) 1)) v v').cp m=if m=n then Ygv (s.cp n) t (Yd1 s0.start (s.count+1) (s0.cont n)) else s.cp m:=rfl
  have hcn:(Ygw s n t (Yd1 s0.start (s.count+1) (s0.cont n)) (Yam s0.start (s.count+1) (Ybb (s0.cont n) 0)) (Yam s0.start (s.count+1) (Ybb (s0.cont n) 1)) v v').count=s.count+1:=rfl;have hel:Yeb s0.start (s.count+1) (Yd1 s0.start (s.count+1) (s0.cont n)):=.inr ⟨rfl,Int.le_refl _⟩;rw [hcp,hcn];generalize Ygw s n t (Yd1 s0.start (s.count+1) (s0.cont n)) (Yam s0.start (s.count+1) (Ybb (s0.cont n) 0)) (Yam s0.start (s.count+1) (Ybb (s0.cont n) 1)) v v'=sf at hrd2 ⊢;by_cases hmn:m=n
  ·subst hmn
   rw [if_pos rfl];have h01:t=0∨t=1:=by omega
   rcases h01 with rfl | rfl
   ·refine ⟨⟨⟨?_,?_⟩,⟨?_,?_⟩,hcf,b6⟩,hel,e2⟩
    ·rw [hrd2 _ (by omega),if_pos hA.symm];rfl
    ·rw [hrd2 _ (by omega),if_neg (by omega),if_pos (by omega)];rfl
    ·rw [hrd2 _ (by omega),if_neg (by omega),if_neg (by omega)];exact b3
    ·rw [hrd2 _ (by omega),if_neg (by omega),if_neg (by omega)];exact b4
   ·refine ⟨⟨⟨?_,?_⟩,⟨?_,?_⟩,b5,hcf⟩,e1,hel⟩
    ·rw [hrd2 _ (by omega),if_neg (by omega),if_neg (by omega)];exact b1
    ·rw [hrd2 _ (by omega),if_neg (by omega),if_neg (by omega)];exact b2
    ·rw [hrd2 _ (by omega),if_pos hA.symm];rfl
    ·rw [hrd2 _ (by omega),if_neg (by omega),if_pos (by omega)];rfl
  ·rw [if_neg hmn]
   refine ⟨⟨⟨?_,?_⟩,⟨?_,?_⟩,b5,b6⟩,e1,e2⟩
   ·rw [hrd2 _ (by omega),if_neg (by omega),if_neg (by omega)];exact b1
   ·rw [hrd2 _ (by omega),if_neg (by omega),if_neg (by omega)];exact b2
   ·rw [hrd2 _ (by omega),if_neg (by omega),if_neg (by omega)];exact b3
   ·rw [hrd2 _ (by omega),if_neg (by omega),if_neg (by omega)];exact b4
 ·intro m hm
  simp only [List.mem_append,List.mem_singleton,not_or] at hm;show (if m=n then _ else s.cp m)=_;rw [if_neg hm.2];exact F.old m hm.1
 ·intro m hm hmd
  show s0.cont m=(Ya3.of (if m=n then _ else s.cp m).1 (if m=n then _ else s.cp m).2 2).rec';by_cases hmn:m=n
  ·subst hmn
   rw [if_pos rfl,(Y0k (F.on m hm).2.1 (F.on m hm).2.2 ⟨g.st.1,by omega⟩ t ht _ ⟨rfl,rfl⟩).1,Y0h _ _ _ r2 hne]
  ·rw [if_neg hmn]
   refine F.new m hm ?_;simp only [List.mem_append,List.mem_singleton] at hmd;exact hmd.resolve_right hmn
 ·refine ⟨F.logd.len,fun i hi=>?_,fun i hi hi4=>?_⟩
  ·have hll:=F.logd.len
   refine (F.logd.at' i hi).same ?_;have h9:=hrd (34+i) (by omega);rw [if_neg (by omega),if_neg (by omega),hA] at h9;exact h9
  ·obtain ⟨a,c,e,k1,k2⟩:=F.logd.rest i hi hi4
   refine ⟨a,c,e,k1.same ?_,k2⟩;have h9:=hrd (34+i) (by omega);rw [if_neg (by omega),if_neg (by omega),hA] at h9;exact h9
theorem Yl0 (s:Sv) (c:Nat→Ybq×Ybq) (tag:Tag):({ s with cp:=c }:Sv).blk tag=s.blk tag:=by cases tag using Tag.elim with | _=>rfl
theorem Yan.ghost (h:Yan w s) (c:Nat→Ybq×Ybq):Yan w { s with cp:=c }:=
 ⟨fun tag=>by have h0:=h.comp tag;cases tag using Tag.elim with | _=>exact h0,fun a b k h1 h2=>h.apart a b k ((Yl0 s c a).symm.trans h1) ((Yl0 s c b).symm.trans h2),fun tag k hk=>h.lt tag k ((Yl0 s c tag).symm.trans hk)⟩
theorem Ybg.ghost (h:Ybg w w' s s') (c:Nat→Ybq×Ybq):Ybg w w' s { s' with cp:=c }:=
 ⟨h.lies.ghost c,fun tag k hk=>h.grown tag k ((Yl0 s' c tag).symm.trans hk),h.off,h.below⟩
theorem Y0m (S0 S1:List Value) (h0:S0.length=64) (h1:S1.length=64) (w:World):(Instr.index 256 (.agg (S0 ++ S1).toArray) (.int .i64 0)).run prog w=.ok (.agg S0.toArray) w∧(Instr.index 256 (.agg (S0 ++ S1).toArray) (.int .i64 1)).run prog w=.ok (.agg S1.toArray) w:=by
 have hu:=underlying256;have hb:=underlying98;have hz:(prog.info? 98).map (·.size)=some 64:=by kernel_rfl
 have t0:List.take 64 (S0 ++ S1)=S0:=by rw [←h0];simp
 have t1:List.take 64 (List.drop 64 (S0 ++ S1))=S1:=by
  have e:List.drop 64 (S0 ++ S1)=S1:=by rw [←h0];simp
  rw [e,List.take_of_length_le (by omega)]
 cases hq:prog.info? 98 with
 | none=>simp [hq] at hz
 | some i=>
  have hi:i.size=64:=by simpa [hq] using hz
  constructor
  ·simp [Instr.index,asIntOf,run_underlying hu,sizeOf,typeInfo,hq,hi,part,t0]
  ·simp [Instr.index,asIntOf,run_underlying hu,sizeOf,typeInfo,hq,hi,part,t1]
def PwI (w wr:World) (s0 s:Sv) (done:List Nat) (n A:Nat) (S0:List Value):Nat→Prop
 | 0=>Ybg w wr s (Yew s)
 | 1=>∃ v1,Ybg w wr s (Ygu (Yew s) A S0 v1)
 | _=>∃ s',Fl s0 s' (done ++ [n])∧Ybg w wr s s'
theorem Y0n (h:Yan w s) (F:Fl s0 s done) (g:Yar s0) (n:Nat) (hn:n<8) (hnd:n∉done) (hd:done.length≤8) (p:PgV) (hp:s0.pgs n=some p) (hne:∀ q∈s0.cont n,1≤q.1.size):
 Calls prog 116 #[.pointer (some ⟨s0.kb,2,none⟩),.int .i64 (n:Int)] w fun e w'=>e=.returned (.tuple #[])∧∃ s',Fl s0 s' (done ++ [n])∧Ybg w w' s s':=by
 have hps:s.pgs n=some p:=by obtain ⟨c,D,ws,v,cp,rfl⟩:=F.same;exact hp
 have hkb:s.kb=s0.kb:=by obtain ⟨c,D,ws,v,cp,rfl⟩:=F.same;rfl
 have hst:s.start=s0.start:=by obtain ⟨c,D,ws,v,cp,rfl⟩:=F.same;rfl
 have hcn:s.cont=s0.cont:=by obtain ⟨c,D,ws,v,cp,rfl⟩:=F.same;rfl
 have hmp:s.mp=s0.mp:=by obtain ⟨c,D,ws,v,cp,rfl⟩:=F.same;rfl
 obtain ⟨r1,r2,r3⟩:=g.rise n hn
 have hturn:p.turn<2:=by rw [(g.load n hn).turn p hp];exact Y0i _ _
 have hct0:=g.ct
 have hac:=g.ac
 have hln:=g.ln
 have hsc:=F.ct
 have hpg:w.heap[p.g]? = some (.cells #[.int .i64 (p.turn:Int),p.v] 180 (0,0)):=h.comp (.page n) p hps
 have hrow:w.ownsRow 0 43 2 p.v (s0.cont n).length (Yad (s0.cont n)):=by have:=h.comp (.row n) p hps;rw [hcn] at this;exact this
 have c2:w.cell? ⟨s0.kb,2,none⟩=some (.pointer (some ⟨s.vb,0,none⟩)):=by rw [←hkb];exact Yaa (h.comp .kind) (Yb1 s (by omega) rfl)
 have c3:w.cell? ⟨s0.kb,2+1,none⟩=some (.map (some s.mp.b)):=by rw [←hkb];exact Yaa (h.comp .kind) (Yb1 s (j:=3) (by omega) rfl)
 have v0:w.cell? ⟨s.vb,0,none⟩=some (.pointer (some ⟨s.db,0,none⟩)):=Yaa (h.comp .vol) rfl
 have pg0:=Yaa (j:=0) hpg rfl
 have pg1:=Yaa (j:=1) hpg rfl
 have KPG:Hid (Calls prog 111 #[.pointer (some ⟨s0.kb,2,none⟩),.int .i64 (n:Int)] w fun e w'=>e=.returned (.pointer (some ⟨p.g,0,none⟩))∧w=w'):=Yrh s0.kb 2 s.mp.b s.mp.n n p.g s.mp.M w hn c3 (h.comp .mp) (by rw [hmp];exact g.have' n p hn hp _)
 obtain ⟨T,hT⟩:∃ T,T=1 - p.turn:=⟨_,rfl⟩
 have hT2:T<2:=by omega
 have hTc:(1:Int) - (p.turn:Int)=(T:Int):=by omega
 obtain ⟨A,hA⟩:∃ A,A=2+(n*2+T)*2:=⟨_,rfl⟩
 have hA4:A+1<34:=by omega
 have KPA:Hid (∀ W,Calls prog 164 #[.int .i64 (n:Int),.int .i64 (T:Int)] W fun e w'=>e=.returned (.int .i64 (A:Int))∧W=w'):=fun W=>by rw [hA];exact Ynn n T W (by omega) (by omega)
 have KO:Hid (∀ W,Calls prog 122 #[.int .i64 (p.turn:Int)] W fun e w'=>e=.returned (.int .i64 (T:Int))∧W=w'):=fun W=>by rw [←hTc];exact Ypu _ W (by omega) (by omega)
 have KST:Hid (∀ W,Ybg w W s s→Calls prog 124 #[.pointer (some ⟨s.vb,0,none⟩)] W fun e w'=>e=.returned (.agg #[.int .u32 s0.start,.int .u32 (s.count+1)])∧Ybg w w' s (Yew s)):=fun W hW=>by
  refine (Y0g hW.lies ⟨by omega,by omega⟩).mono ?_;rintro e w' ⟨h1,h2⟩;rw [hst] at h1;exact ⟨h1,hW.trans h2⟩
 have HCL:Hid (∀ W s',Ybg w W s s'→(∃ c D ws v cp,s' = { s with count:=c,D:=D,ws:=ws,v:=v,cp:=cp })→W.cell? ⟨s0.kb,2,none⟩=some (.pointer (some ⟨s.vb,0,none⟩))∧W.cell? ⟨s.vb,0,none⟩=some (.pointer (some ⟨s.db,0,none⟩))∧W.cell? ⟨p.g,1,none⟩=some p.v∧W.ownsRow 0 43 2 p.v (s0.cont n).length (Yad (s0.cont n))):=fun W s' hW hs'=>by
  obtain ⟨c,D,ws,v,cp,rfl⟩:=hs';refine ⟨?_,Yaa (hW.lies.comp .vol) rfl,Yaa (j:=1) (hW.lies.comp (.page n) p hps) rfl,?_⟩
  ·rw [←hkb]
   have h9:W.cell? ⟨s.kb,2,none⟩=some (.pointer (some ⟨s.vb,0,none⟩)):=Yaa (hW.lies.comp .kind) (Yb1 s (by omega) rfl);exact h9
  ·have:=hW.lies.comp (.row n) p hps
   have e9:({ s with count:=c,D:=D,ws:=ws,v:=v,cp:=cp }:Sv).cont=s0.cont:=hcn;rw [e9] at this;exact this
 have KPK:Hid (∀ W,W.ownsRow 0 43 2 p.v (s0.cont n).length (Yad (s0.cont n))→Calls prog 165 #[.agg #[.int .u32 s0.start,.int .u32 (s.count+1)],p.v] W fun r w'=>r=.returned (.agg (Yam s0.start (s.count+1) (Ybb (s0.cont n) 0) ++ Yam s0.start (s.count+1) (Ybb (s0.cont n) 1)).toArray)∧Below W.heap.size W w'):=fun W hW=>Yx0 s0.start (s.count+1) 0 p.v (s0.cont n) W g.st.1 (by have:=g.st.2;omega) (by omega) (by omega) hW r2 r3
 obtain ⟨S0,hS0⟩:∃ S0,S0=Yam s0.start (s.count+1) (Ybb (s0.cont n) 0):=⟨_,rfl⟩
 obtain ⟨S1,hS1⟩:∃ S1,S1=Yam s0.start (s.count+1) (Ybb (s0.cont n) 1):=⟨_,rfl⟩
 have hl0:S0.length=64:=by rw [hS0];exact Yeh _ _ _ (by rw [Ylm r3];omega)
 have hl1:S1.length=64:=by rw [hS1];exact Yeh _ _ _ (by rw [Ylm r3];omega)
 have ho0:∀ u∈S0,u.oneCell'=true:=by rw [hS0];exact Yfy _ _ _ (Yi3 _ 0)
 have ho1:∀ u∈S1,u.oneCell'=true:=by rw [hS1];exact Yfy _ _ _ (Yi3 _ 1)
 have KW0:Hid (∀ W,Ybg w W s (Yew s)→Calls prog 119 #[.pointer (some ⟨s.db,0,none⟩),.int .i64 (A:Int),.agg S0.toArray] W fun e w'=>e=.returned (.tuple #[])∧(∃ v1,Ybg w w' s (Ygu (Yew s) A S0 v1))∧∀ q,q<W.heap.size→(∀ tag,(Yew s).blk tag≠some q)→w'.heap[q]? = W.heap[q]?):=fun W hW=>by
  refine (Ysq hW.lies F.dv F.fuse (by show s.ws.length≤1000;rw [F.wn];omega) A S0 hl0 ho0).mono ?_;rintro e w' ⟨h1,v1,h2⟩;exact ⟨h1,⟨v1,hW.trans h2⟩,h2.off⟩
 have KW1:Hid (∀ W v1,Ybg w W s (Ygu (Yew s) A S0 v1)→Calls prog 119 #[.pointer (some ⟨s.db,0,none⟩),.int .i64 ((A:Int)+1),.agg S1.toArray] W fun e w'=>e=.returned (.tuple #[])∧(∃ s',Fl s0 s' (done ++ [n])∧Ybg w w' s s')∧∀ q,q<W.heap.size→(∀ tag,(Ygu (Yew s) A S0 v1).blk tag≠some q)→w'.heap[q]? = W.heap[q]?):=fun W v1 hW=>by
  have e1:((A+1:Nat):Int)=(A:Int)+1:=by omega
  have K:=Ysq hW.lies (by show (s.D.setIfInBounds 27776 v1)[27776]? = some v1;exact Array.getElem?_setIfInBounds_self_of_lt (by rw [F.dsz];omega)) (by show (s.D.setIfInBounds 27776 v1)[27777]? = _;rw [Array.getElem?_setIfInBounds_ne (by omega)];exact F.fuse) (by show (s.ws ++ [_]).length≤1000;rw [List.length_append,F.wn];simp;omega) (A+1) S1 hl1 ho1;rw [e1] at K;refine K.mono ?_;rintro e w' ⟨h1,v2,h2⟩;refine ⟨h1,⟨Ygw s n T (Yd1 s0.start (s.count+1) (s0.cont n)) S0 S1 v1 v2,?_,?_⟩,h2.off⟩
  ·rw [hS0,hS1];exact F.step g n hn hnd hd hne T hT2 v1 v2
  ·have h3:=(hW.trans h2).ghost (fun m=>if m=n then Ygv (s.cp n) T (Yd1 s0.start (s.count+1) (s0.cont n)) else s.cp m)
   unfold Ygw;rw [←hA];exact h3
 have HREF:Hid (Ybg w w s s):=Ybg.refl h
 have HL:=Yh h
 have HF:=Yh F
 have hub:=underlying98
 rw [←hS0,←hS1] at KPK
 generalize hkb0:s0.kb=kb at c2 c3 KPG HCL
 generalize s0.start=st0 at KST KPK
 have hg5:=hpg
 clear hps hkb hst hcn hmp r1 r2 r3 hct0 hac hln hsc hpg hrow hne hnd hd F g hp hS0 hS1 hTc hT h hA hT2
 have HIX:Hid (∀ w,(Instr.index 256 (.agg (S0 ++ S1).toArray) (.int .i64 0)).run prog w=.ok (.agg S0.toArray) w∧(Instr.index 256 (.agg (S0 ++ S1).toArray) (.int .i64 1)).run prog w=.ok (.agg S1.toArray) w):=fun w=>Y0m S0 S1 hl0 hl1 w
 go_enter func116,ntmps116
 go_wp2_with (first
  | (go_at_call 111;go_must (refine KPG.out.mono ?_;rintro e w' ⟨rfl,rfl⟩))
  | (go_at_call 122;go_must (refine (KO.out _).mono ?_;rintro e w' ⟨rfl,rfl⟩))
  | (go_at_call 164;go_must (refine (KPA.out _).mono ?_;rintro e w' ⟨rfl,rfl⟩)))
 go_region_held3 (fun w'=>w'.cell? ⟨kb,2,none⟩=some (.pointer (some ⟨s.vb,0,none⟩))∧w'.cell? ⟨p.g,1,none⟩=some p.v)
  (go_keep)
  (first
   | (go_at_call 124;go_must (
    refine (KST.out _ HREF.out.drew).mono ?_;rintro e w1 ⟨rfl,hm1⟩;have HM1:=Yh hm1;obtain ⟨d2,_,d1,hr1⟩:=HCL.out w1 _ hm1 ⟨_,_,_,_,_,rfl⟩;have HR1:=Yh hr1;clear hm1 hr1))
   | (go_at_call 165;go_must (
    refine (KPK.out w1 HR1.out).mono ?_;rintro e w2 ⟨rfl,hb2⟩;have hm2:=HM1.out.trans (Ybg.of_below HM1.out.lies hb2);have HM2:=Yh hm2;obtain ⟨f2,_,f1,_⟩:=HCL.out w2 _ hm2 ⟨_,_,_,_,_,rfl⟩;clear hm2 hb2)))
 all_goals
  go_wp2;go_loopw [28] (fun i wr=>∃ k:Nat,k≤2∧i=.int .i64 k∧PwI w wr s0 s done n A S0 k) (fun i _=>2 - (intOf i).toNat)
  case atStart=>exact ⟨0,by omega,rfl,HM2.out⟩
  case round=>
   obtain ⟨k,hk,rfl,hrel⟩:=hrel;have hk3:k=0∨k=1∨k=2:=by omega
   rcases hk3 with rfl | rfl | rfl
   ·have HR:=Yh hrel
    have hix:=(HIX.out wr).1;have hz:=heap_alloc_new wr (.cells #[.int .u8 0,.int .u8 0,.int .u8 0,.int .u8 0,.int .u8 0,.int .u8 0,.int .u8 0,.int .u8 0,.int .u8 0,.int .u8 0,.int .u8 0,.int .u8 0,.int .u8 0,.int .u8 0,.int .u8 0,.int .u8 0,.int .u8 0,.int .u8 0,.int .u8 0,.int .u8 0,.int .u8 0,.int .u8 0,.int .u8 0,.int .u8 0,.int .u8 0,.int .u8 0,.int .u8 0,.int .u8 0,.int .u8 0,.int .u8 0,.int .u8 0,.int .u8 0,.int .u8 0,.int .u8 0,.int .u8 0,.int .u8 0,.int .u8 0,.int .u8 0,.int .u8 0,.int .u8 0,.int .u8 0,.int .u8 0,.int .u8 0,.int .u8 0,.int .u8 0,.int .u8 0,.int .u8 0,.int .u8 0,.int .u8 0,.int .u8 0,.int .u8 0,.int .u8 0,.int .u8 0,.int .u8 0,.int .u8 0,.int .u8 0,.int .u8 0,.int .u8 0,.int .u8 0,.int .u8 0,.int .u8 0,.int .u8 0,.int .u8 0,.int .u8 0] 98);have hrun:=Ymv (wr.alloc (.cells #[.int .u8 0,.int .u8 0,.int .u8 0,.int .u8 0,.int .u8 0,.int .u8 0,.int .u8 0,.int .u8 0,.int .u8 0,.int .u8 0,.int .u8 0,.int .u8 0,.int .u8 0,.int .u8 0,.int .u8 0,.int .u8 0,.int .u8 0,.int .u8 0,.int .u8 0,.int .u8 0,.int .u8 0,.int .u8 0,.int .u8 0,.int .u8 0,.int .u8 0,.int .u8 0,.int .u8 0,.int .u8 0,.int .u8 0,.int .u8 0,.int .u8 0,.int .u8 0,.int .u8 0,.int .u8 0,.int .u8 0,.int .u8 0,.int .u8 0,.int .u8 0,.int .u8 0,.int .u8 0,.int .u8 0,.int .u8 0,.int .u8 0,.int .u8 0,.int .u8 0,.int .u8 0,.int .u8 0,.int .u8 0,.int .u8 0,.int .u8 0,.int .u8 0,.int .u8 0,.int .u8 0,.int .u8 0,.int .u8 0,.int .u8 0,.int .u8 0,.int .u8 0,.int .u8 0,.int .u8 0,.int .u8 0,.int .u8 0,.int .u8 0,.int .u8 0] 98)) wr.heap.size _ 98 S0 hz (by rw [hl0];rfl) ho0;obtain ⟨W3,hW3⟩:∃ W3,W3=(wr.alloc (.cells #[.int .u8 0,.int .u8 0,.int .u8 0,.int .u8 0,.int .u8 0,.int .u8 0,.int .u8 0,.int .u8 0,.int .u8 0,.int .u8 0,.int .u8 0,.int .u8 0,.int .u8 0,.int .u8 0,.int .u8 0,.int .u8 0,.int .u8 0,.int .u8 0,.int .u8 0,.int .u8 0,.int .u8 0,.int .u8 0,.int .u8 0,.int .u8 0,.int .u8 0,.int .u8 0,.int .u8 0,.int .u8 0,.int .u8 0,.int .u8 0,.int .u8 0,.int .u8 0,.int .u8 0,.int .u8 0,.int .u8 0,.int .u8 0,.int .u8 0,.int .u8 0,.int .u8 0,.int .u8 0,.int .u8 0,.int .u8 0,.int .u8 0,.int .u8 0,.int .u8 0,.int .u8 0,.int .u8 0,.int .u8 0,.int .u8 0,.int .u8 0,.int .u8 0,.int .u8 0,.int .u8 0,.int .u8 0,.int .u8 0,.int .u8 0,.int .u8 0,.int .u8 0,.int .u8 0,.int .u8 0,.int .u8 0,.int .u8 0,.int .u8 0,.int .u8 0] 98)).setRow wr.heap.size S0.toArray:=⟨_,rfl⟩;have hb3:Below wr.heap.size wr W3:=by rw [hW3];exact ((Below.refl _ wr).alloc (Nat.le_refl _) _).trans (Ylk _ _ _)
    have hz3:wr.heap.size<W3.heap.size:=by rw [hW3];simp [World.setRow]
    have hq3:W3.heap[wr.heap.size]? = some (.cells S0.toArray 98 (0,0)):=by rw [hW3];exact setRow_heap _ _ _ _ _ (0,0) hz
    have HM3:Hid (Ybg w W3 s (Yew s)):=HR.out.trans (Ybg.of_below HR.out.lies hb3);have HQ3:=Yh hq3;have HZ3:=Yh hz3;obtain ⟨m2,m0,_,_⟩:=HCL.out W3 _ HM3.out ⟨_,_,_,_,_,rfl⟩;have hrg:W3.rangeAt wr.heap.size 0 S0:=fun j u hu=>by rw [Nat.zero_add];exact Yaa hq3 (by simpa using hu)
    have hi:(prog.info? 98).map (·.size)=some S0.length:=by rw [hl0];kernel_rfl
    have hwA:IntKind.i64.wrap (A:Int)=(A:Int):=by rw [IntKind.wrap_i64];omega
    have HPT:Hid (∀ tag,(Yew s).blk tag≠some wr.heap.size):=fun tag ht=>by have:=HR.out.lies.lt tag _ ht;omega
    rw [←hW3] at hrun;clear hrel hz hb3 hq3 hz3 hW3;rw [show ((0:Nat):Int)=0 from rfl];go_upto_region 5 with fail
    clear hrun hix;go_region_held3 (fun w'=>w'.cell? ⟨kb,2,none⟩=some (.pointer (some ⟨s.vb,0,none⟩))∧w'.cell? ⟨s.vb,0,none⟩=some (.pointer (some ⟨s.db,0,none⟩))∧w'.rangeAt wr.heap.size 0 S0)
     (first | exact ⟨m2',m0',hrg'⟩ | exact ⟨m2,m0,hrg⟩)
     (first | (go_at_call 119;go_must (
      refine (KW0.out _ HM3.out.drew).mono ?_;rintro e w5 ⟨rfl,hm5,hf5⟩;have HM5:=Yh hm5;obtain ⟨m2',m0'⟩:w5.cell? ⟨kb,2,none⟩=some (.pointer (some ⟨s.vb,0,none⟩))∧w5.cell? ⟨s.vb,0,none⟩=some (.pointer (some ⟨s.db,0,none⟩)):=(by obtain ⟨v1,hm⟩:=hm5;obtain ⟨x,y,_,_⟩:=HCL.out w5 _ hm ⟨_,_,_,_,_,rfl⟩;exact ⟨x,y⟩);have hrg':w5.rangeAt wr.heap.size 0 S0:=fun j u hu=>by rw [Nat.zero_add];exact Yaa ((hf5 _ HZ3.out HPT.out).trans HQ3.out) (by simpa using hu)
      clear hm5 hf5)))
    all_goals
     go_wp2;exact ⟨⟨0+1,by omega,rfl,HM5.out⟩,by simp [intOf]⟩
   ·obtain ⟨v1,hrel⟩:=hrel
    have HR:=Yh hrel;have hix:=(HIX.out wr).2;have hz:=heap_alloc_new wr (.cells #[.int .u8 0,.int .u8 0,.int .u8 0,.int .u8 0,.int .u8 0,.int .u8 0,.int .u8 0,.int .u8 0,.int .u8 0,.int .u8 0,.int .u8 0,.int .u8 0,.int .u8 0,.int .u8 0,.int .u8 0,.int .u8 0,.int .u8 0,.int .u8 0,.int .u8 0,.int .u8 0,.int .u8 0,.int .u8 0,.int .u8 0,.int .u8 0,.int .u8 0,.int .u8 0,.int .u8 0,.int .u8 0,.int .u8 0,.int .u8 0,.int .u8 0,.int .u8 0,.int .u8 0,.int .u8 0,.int .u8 0,.int .u8 0,.int .u8 0,.int .u8 0,.int .u8 0,.int .u8 0,.int .u8 0,.int .u8 0,.int .u8 0,.int .u8 0,.int .u8 0,.int .u8 0,.int .u8 0,.int .u8 0,.int .u8 0,.int .u8 0,.int .u8 0,.int .u8 0,.int .u8 0,.int .u8 0,.int .u8 0,.int .u8 0,.int .u8 0,.int .u8 0,.int .u8 0,.int .u8 0,.int .u8 0,.int .u8 0,.int .u8 0,.int .u8 0] 98);have hrun:=Ymv (wr.alloc (.cells #[.int .u8 0,.int .u8 0,.int .u8 0,.int .u8 0,.int .u8 0,.int .u8 0,.int .u8 0,.int .u8 0,.int .u8 0,.int .u8 0,.int .u8 0,.int .u8 0,.int .u8 0,.int .u8 0,.int .u8 0,.int .u8 0,.int .u8 0,.int .u8 0,.int .u8 0,.int .u8 0,.int .u8 0,.int .u8 0,.int .u8 0,.int .u8 0,.int .u8 0,.int .u8 0,.int .u8 0,.int .u8 0,.int .u8 0,.int .u8 0,.int .u8 0,.int .u8 0,.int .u8 0,.int .u8 0,.int .u8 0,.int .u8 0,.int .u8 0,.int .u8 0,.int .u8 0,.int .u8 0,.int .u8 0,.int .u8 0,.int .u8 0,.int .u8 0,.int .u8 0,.int .u8 0,.int .u8 0,.int .u8 0,.int .u8 0,.int .u8 0,.int .u8 0,.int .u8 0,.int .u8 0,.int .u8 0,.int .u8 0,.int .u8 0,.int .u8 0,.int .u8 0,.int .u8 0,.int .u8 0,.int .u8 0,.int .u8 0,.int .u8 0,.int .u8 0] 98)) wr.heap.size _ 98 S1 hz (by rw [hl1];rfl) ho1;obtain ⟨W3,hW3⟩:∃ W3,W3=(wr.alloc (.cells #[.int .u8 0,.int .u8 0,.int .u8 0,.int .u8 0,.int .u8 0,.int .u8 0,.int .u8 0,.int .u8 0,.int .u8 0,.int .u8 0,.int .u8 0,.int .u8 0,.int .u8 0,.int .u8 0,.int .u8 0,.int .u8 0,.int .u8 0,.int .u8 0,.int .u8 0,.int .u8 0,.int .u8 0,.int .u8 0,.int .u8 0,.int .u8 0,.int .u8 0,.int .u8 0,.int .u8 0,.int .u8 0,.int .u8 0,.int .u8 0,.int .u8 0,.int .u8 0,.int .u8 0,.int .u8 0,.int .u8 0,.int .u8 0,.int .u8 0,.int .u8 0,.int .u8 0,.int .u8 0,.int .u8 0,.int .u8 0,.int .u8 0,.int .u8 0,.int .u8 0,.int .u8 0,.int .u8 0,.int .u8 0,.int .u8 0,.int .u8 0,.int .u8 0,.int .u8 0,.int .u8 0,.int .u8 0,.int .u8 0,.int .u8 0,.int .u8 0,.int .u8 0,.int .u8 0,.int .u8 0,.int .u8 0,.int .u8 0,.int .u8 0,.int .u8 0] 98)).setRow wr.heap.size S1.toArray:=⟨_,rfl⟩;have hb3:Below wr.heap.size wr W3:=by rw [hW3];exact ((Below.refl _ wr).alloc (Nat.le_refl _) _).trans (Ylk _ _ _)
    have hz3:wr.heap.size<W3.heap.size:=by rw [hW3];simp [World.setRow]
    have hq3:W3.heap[wr.heap.size]? = some (.cells S1.toArray 98 (0,0)):=by rw [hW3];exact setRow_heap _ _ _ _ _ (0,0) hz
    have HM3:Hid (Ybg w W3 s (Ygu (Yew s) A S0 v1)):=HR.out.trans (Ybg.of_below HR.out.lies hb3);have HQ3:=Yh hq3;have HZ3:=Yh hz3;obtain ⟨m2,m0,_,_⟩:=HCL.out W3 _ HM3.out ⟨_,_,_,_,_,rfl⟩;have hrg:W3.rangeAt wr.heap.size 0 S1:=fun j u hu=>by rw [Nat.zero_add];exact Yaa hq3 (by simpa using hu)
    have hi:(prog.info? 98).map (·.size)=some S1.length:=by rw [hl1];kernel_rfl
    have hwA:IntKind.i64.wrap ((A:Int)+1)=(A:Int)+1:=by rw [IntKind.wrap_i64];omega
    have HPT:Hid (∀ tag,(Ygu (Yew s) A S0 v1).blk tag≠some wr.heap.size):=fun tag ht=>by have:=HR.out.lies.lt tag _ ht;omega
    rw [←hW3] at hrun;clear hrel hz hb3 hq3 hz3 hW3;rw [show ((1:Nat):Int)=1 from rfl];go_upto_region 5 with fail
    clear hrun hix;go_region_held3 (fun w'=>w'.cell? ⟨kb,2,none⟩=some (.pointer (some ⟨s.vb,0,none⟩))∧w'.cell? ⟨s.vb,0,none⟩=some (.pointer (some ⟨s.db,0,none⟩))∧w'.rangeAt wr.heap.size 0 S1)
     (first | exact ⟨m2',m0',hrg'⟩ | exact ⟨m2,m0,hrg⟩)
     (first | (go_at_call 119;go_must (
      refine (KW1.out _ v1 HM3.out.drew).mono ?_;rintro e w5 ⟨rfl,hm5,hf5⟩;have HM5:=Yh hm5;obtain ⟨m2',m0'⟩:w5.cell? ⟨kb,2,none⟩=some (.pointer (some ⟨s.vb,0,none⟩))∧w5.cell? ⟨s.vb,0,none⟩=some (.pointer (some ⟨s.db,0,none⟩)):=(by obtain ⟨s',h1,h2⟩:=hm5;obtain ⟨c,D,ws,v,cp,e1⟩:=HF.out.same;obtain ⟨c',D',ws',v',cp',e2⟩:=h1.same;obtain ⟨x,y,_,_⟩:=HCL.out w5 s' h2 ⟨c',D',ws',v',cp',by rw [e2,e1]⟩;exact ⟨x,y⟩);have hrg':w5.rangeAt wr.heap.size 0 S1:=fun j u hu=>by rw [Nat.zero_add];exact Yaa ((hf5 _ HZ3.out HPT.out).trans HQ3.out) (by simpa using hu)
      clear hm5 hf5)))
    all_goals
     go_wp2;exact ⟨⟨1+1,by omega,rfl,HM5.out⟩,by simp [intOf]⟩
   ·obtain ⟨s',h1,h2⟩:=hrel
    go_wp2;go_end0;exact ⟨rfl,s',h1,h2⟩
theorem Y0o (db:Nat) (D:Array Value) (w:World) (hD:w.heap[db]? = some (.cells D 103 (0,0))) (_hDz:D.size=27779) (hDv:D[27776]? = some (.slice none 0 0)):
 Calls prog 117 #[.pointer (some ⟨db,0,none⟩)] w fun e w'=>e=.returned (.tuple #[])∧w'.heap[db]? = some (.cells (D.setIfInBounds 27776 (.slice none 0 0)) 103 (0,0))∧(∀ k,k<w.heap.size→k≠db→w'.heap[k]? = w.heap[k]?)∧Below 0 w w':=by
 have hc:w.cell? ⟨db,27776,none⟩=some (.slice none 0 0):=Yaa hD hDv
 have hf:=Yah 27776 hD
 have HD:=Yh hD
 clear hD hDv
 go_enter func117,ntmps117
 go_wp2
 go_loopw [9] (fun i wr=>i=.int .i64 0∧wr=w) (fun _ _=>0)
 case atStart=>exact ⟨rfl,rfl⟩
 case round=>
  obtain ⟨rfl,rfl⟩:=hrel;go_wp2;go_end0;exact ⟨rfl,Yak _ db 27776 _ _ _ HD.out,fun k h1 h2=>Below.heap_setCell _ _ _ _ h2,(Below.refl _ _).setCell (p:=⟨db,27776,none⟩) (by simp) _⟩
theorem Y0p (h:Yan w s) (dsz:s.D.size=27779) (dv:s.D[27776]? = some s.v) (ok:Ydn s.ws) (wn:s.ws.length≤1000):
 Calls prog 117 #[.pointer (some ⟨s.db,0,none⟩)] w fun e w'=>e=.returned (.tuple #[])∧Ybg w w' s (synced s):=by
 have hown:w.ownsRow (s.db+1) 143 65 s.v s.ws.length (Ycs s.ws):=h.comp .uns
 have hB:∀ tag k,(synced s).blk tag=some k→s.blk tag=some k:=fun tag k hk=>by
  cases tag using Tag.elim with
  | uns=>simp [synced,Value.ownBlock] at hk
  | _=>exact hk
 have fin:∀ w',w'.heap[s.db]? = some (.cells ((Ybp s.D s.ws).setIfInBounds 27776 (.slice none 0 0)) 103 (0,0))→(∀ k,k<w.heap.size→k≠s.db→w'.heap[k]? = w.heap[k]?)→Below 0 w w'→Ybg w w' s (synced s):=fun w' k1 k2 k3=>by
  refine ⟨h.step (fun tag=>tag=.disk∨tag=.uns) ?_ ?_ ?_ ?_ ?_ k3.size,fun tag k hk=>.inl (hB tag k hk),fun k hk hnt=>k2 k hk (fun e=>hnt .disk (by rw [e];rfl)),k3⟩
  ·intro tag ht
   simp only [not_or] at ht
   cases tag using Tag.elim with
   | disk=>exact absurd rfl ht.1
   | uns=>exact absurd rfl ht.2
   | _=>exact ⟨rfl,fun W hW=>hW⟩
  ·intro tag k ht hk
   simp only [not_or] at ht;exact k2 k (h.lt tag k hk) (fun e=>ht.1 (h.apart tag .disk k hk (by rw [e];rfl)))
  ·rintro tag (rfl | rfl)
   ·exact k1
   ·exact World.ownsRow_nil _ _ _ _
  ·intro tag k _ hk
   exact .inl (hB tag k hk)
  ·intro a b k _ _ h1 h2
   exact h.apart a b k (hB a k h1) (hB b k h2)
 rcases hown.2 with ⟨h1,h2⟩ | ⟨gb,cap,cur,e1,hb,hgc,_,_,_,hcur⟩
 ·have hws:s.ws=[]:=List.length_eq_zero_iff.1 h2
  refine (Y0o s.db s.D w (h.comp .disk) dsz (by rw [dv,h1])).mono ?_;rintro e w' ⟨rfl,k1,k2,k3⟩;exact ⟨rfl,fin w' (by rw [hws];exact k1) k2 k3⟩
 ·have hdv:s.D[27776]? = some (.slice (some ⟨gb,0,none⟩) s.ws.length cap):=by rw [dv,e1]
  refine (Ymu s.db (s.db+1) gb cap s.ws s.D cur w (by omega) hb ok (by omega) (h.comp .disk) dsz hdv hgc (fun j u hu=>?_)).mono ?_
  ·rw [←hcur,List.getElem?_take] at hu
   split at hu
   ·simpa using hu
   ·cases hu
  ·rintro e w' ⟨rfl,k1,k2,k3⟩
   exact ⟨rfl,fin w' k1 k2 k3⟩
def Yex (s:Sv):Sv:={ s with mp:=⟨s.mp.b,0,.map []⟩,pgs:=fun _=>none }
def Yn9 (s:Sv):Sv:={ s with mc:=⟨s.mc.b,0,.map []⟩ }
theorem Y0q (h:Yan w s) (h1:Yap w' 3 s.mp.b 0 (.map [])) (h2:∀ q,q≠s.mp.b→w'.heap[q]? = w.heap[q]?) (h3:w'.heap.size=w.heap.size) (h4:Below 0 w w'):Ybg w w' s (Yex s):=by
 have hB:∀ tag k,(Yex s).blk tag=some k→s.blk tag=some k:=fun tag k hk=>by
  cases tag using Tag.elim with
  | page n=>simp [Yex] at hk
  | row n=>simp [Yex] at hk
  | _=>exact hk
 refine ⟨⟨fun tag=>?_,fun a b k ha hb=>h.apart a b k (hB a k ha) (hB b k hb),fun tag k hk=>by rw [h3];exact h.lt tag k (hB tag k hk)⟩,fun tag k hk=>.inl (hB tag k hk),fun q hq hn=>h2 q (fun e=>hn .mp (by rw [e];rfl)),h4⟩;have hk:tag≠.mp→s.comp w' tag:=fun ht=>Ykg s tag (h.comp tag) (fun k hk=>h2 k (fun e=>ht (h.apart tag .mp k hk (by rw [e];rfl))))
 cases tag using Tag.elim with
 | mp=>exact h1
 | page n=>exact fun p hp=>by cases hp
 | row n=>exact fun p hp=>by cases hp
 | _=>exact hk (by simp)
theorem Y0r (h:Yan w s) (h1:Yap w' 3 s.mc.b 0 (.map [])) (h2:∀ q,q≠s.mc.b→w'.heap[q]? = w.heap[q]?) (h3:w'.heap.size=w.heap.size) (h4:Below 0 w w'):Ybg w w' s (Yn9 s):=by
 have hB:∀ tag k,(Yn9 s).blk tag=some k→s.blk tag=some k:=fun tag k hk=>by
  cases tag using Tag.elim with
  | _=>exact hk
 refine ⟨⟨fun tag=>?_,fun a b k ha hb=>h.apart a b k (hB a k ha) (hB b k hb),fun tag k hk=>by rw [h3];exact h.lt tag k (hB tag k hk)⟩,fun tag k hk=>.inl (hB tag k hk),fun q hq hn=>h2 q (fun e=>hn .mc (by rw [e];rfl)),h4⟩;have hk:tag≠.mc→s.comp w' tag:=fun ht=>Ykg s tag (h.comp tag) (fun k hk=>h2 k (fun e=>ht (h.apart tag .mc k hk (by rw [e];rfl))))
 cases tag using Tag.elim with
 | mc=>exact h1
 | _=>exact hk (by simp)
def Yjd (s:Sv):Sv:=Yn9 (Yex (synced s))
theorem Y0s (s:Sv) (dsz:s.D.size=27779) (ok:Ydn s.ws) (a:Nat) (ha:a<434):Yay (synced s).D (synced s).ws a=Yay s.D s.ws a:=by
 obtain ⟨h1,_,_⟩:=Ylu s.D s.ws dsz ok;rw [←h1 a ha];show (((Ybp s.D s.ws).setIfInBounds 27776 (.slice none 0 0)).extract (a*64) (a*64+64)).toList=_;congr 1;apply Array.ext_getElem?;intro i;simp only [Array.getElem?_extract,Array.size_setIfInBounds];split
 ·exact Array.getElem?_setIfInBounds_ne (by omega)
 ·rfl
theorem Fl.good (F:Fl s0 s done) (g:Yar s0) (hall:∀ n,n<8→s0.chg n=true→n∈done) (hct:s0.count+done.length≤100+s0.len+1000*s0.acts):Yar (Yjd s):=by
 obtain ⟨h1,h2,h3⟩:=Ylu s.D s.ws F.dsz F.ok;have hrd:∀ a,a<434→Yay (Yjd s).D (Yjd s).ws a=Yay s.D s.ws a:=fun a ha=>Y0s s F.dsz F.ok a ha
 have e1:s.len=s0.len:=by obtain ⟨c,D,ws,v,cp,rfl⟩:=F.same;rfl
 have e2:s.start=s0.start:=by obtain ⟨c,D,ws,v,cp,rfl⟩:=F.same;rfl
 have e3:s.cont=s0.cont:=by obtain ⟨c,D,ws,v,cp,rfl⟩:=F.same;rfl
 have e4:s.acts=s0.acts:=by obtain ⟨c,D,ws,v,cp,rfl⟩:=F.same;rfl
 have e5:s.mo=s0.mo:=by obtain ⟨c,D,ws,v,cp,rfl⟩:=F.same;rfl
 have e6:s.tx=s0.tx:=by obtain ⟨c,D,ws,v,cp,rfl⟩:=F.same;rfl
 have e7:s.log=s0.log:=by obtain ⟨c,D,ws,v,cp,rfl⟩:=F.same;rfl
 have e8:=F.ct;have ec:(0:Int)≤s0.count:=g.ct.1;refine { dsz:=?_,dv:=?_,fuse:=?_,ok:=fun p hp=>(List.not_mem_nil hp).elim,wn:=Nat.zero_le _,ln:=by show s.len≤391;rw [e1];exact g.ln,db:=fun i u hi hu=>?_,wb:=fun p hp=>(List.not_mem_nil hp).elim,have':=fun n p _ hp=>(by cases hp),lack:=fun n _ _ zd=>rfl,room:=by show 0+Yfm (fun _=>none)≤8;decide,load:=fun n hn=>?_,chk:=fun kl hk=>?_,logd:=?_,wl:=⟨s.len,Nat.le_refl _,?_⟩,rise:=fun n hn=>by show Ybi (s.cont n)∧(s.cont n).length≤4∧∀ p∈s.cont n,p.1.size≤8∧p.2.size≤12;rw [e3];exact g.rise n hn,st:=by show 0≤s.start∧s.start<4294967295;rw [e2];exact g.st,ct:=by show 0≤s.count∧s.count≤100+s.len+1000*s.acts;rw [e1,e4];omega,ac:=by show s.acts≤120;rw [e4];exact g.ac,mon:=by show s.mo.n≤s.acts;rw [e5,e4];exact g.mon,mcn:=Nat.zero_le _,isOpen:=by show ∀ t x,s.tx t=some x→Yf7 s.mo.M t x.tb;rw [e5,e6];exact g.isOpen,notOpen:=by show ∀ t,s.tx t=none→Yhf s.mo.M t;rw [e5,e6];exact g.notOpen }
 ·show ((Ybp s.D s.ws).setIfInBounds 27776 (.slice none 0 0)).size=27779
  rw [Array.size_setIfInBounds,Yhy];exact F.dsz
 ·show ((Ybp s.D s.ws).setIfInBounds 27776 (.slice none 0 0))[27776]? = some (.slice none 0 0)
  exact Array.getElem?_setIfInBounds_self_of_lt (by rw [Yhy,F.dsz];omega)
 ·show ((Ybp s.D s.ws).setIfInBounds 27776 (.slice none 0 0))[27777]? = some (.int .i64 0)
  rw [Array.getElem?_setIfInBounds_ne (by omega),h2 _ (by omega)];exact F.fuse
 ·have hu':((Ybp s.D s.ws).setIfInBounds 27776 (.slice none 0 0))[i]? = some u:=hu
  rw [Array.getElem?_setIfInBounds_ne (by omega)] at hu';exact h3 F.db F.wb i u hi hu'
 ·obtain ⟨⟨a1,a2,a3,a4⟩,b1,b2⟩:=F.on n hn
  refine ⟨⟨⟨?_,?_⟩,⟨?_,?_⟩,a3,a4⟩,fun p hp=>(by cases hp),fun _=>?_,fun h=>(by cases h),?_⟩
  ·exact (hrd _ (by omega)).trans a1.1
  ·exact (hrd _ (by omega)).trans a1.2
  ·exact (hrd _ (by omega)).trans a2.1
  ·exact (hrd _ (by omega)).trans a2.2
  ·show s.cont n=(Ya3.of (s.cp n).1 (s.cp n).2 2).rec'
   rw [e3];by_cases hd:n∈done
   ·exact F.new n hn hd
   ·rw [F.old n hd]
    refine (g.load n hn).cont ?_
    cases hc:s0.chg n with
    | false=>rfl
    | true=>exact absurd (hall n hn hc) hd
  ·show Yeb s.start s.count (s.cp n).1∧Yeb s.start s.count (s.cp n).2
   rw [e2];exact ⟨b1,b2⟩
 ·have hk':Maps.has (.map []) kl=true:=hk
  simp [Maps.has_eq] at hk'
 ·have hl:=F.logd.len
  have hln:=g.ln;show Yi6 (synced s).D (synced s).ws s.start s.len s.log;rw [e2,e1,e7];refine ⟨F.logd.len,fun i hi=>?_,fun i hi hi4=>?_⟩
  ·exact (F.logd.at' i hi).same (hrd (34+i) (by have hi':i<s0.log.length:=hi;omega))
  ·obtain ⟨a,c,e,k1,k2⟩:=F.logd.rest i hi hi4
   exact ⟨a,c,e,k1.same (hrd (34+i) (by omega)),k2⟩
 ·show []=Yfn s.start s.len (s.log.drop s.len)
  rw [e7,e1,List.drop_of_length_le (Nat.le_of_eq g.logd.len)];rfl
theorem Yst:∀ (ks:List Int) (lo:Int),0≤lo→lo≤8→ks.Pairwise (· < ·)→(∀ k∈ks,lo≤k∧k<8)→(ks.length:Int)≤8 - lo
 | [],lo,_,_,_,_=>by simp;omega
 | k :: r,lo,h0,h8,hp,hk=>by
  obtain ⟨h1,h2⟩:=hk k (by simp);rw [List.pairwise_cons] at hp;have:=Yst r (k+1) (by omega) (by omega) hp.2 (fun x hx=>⟨by have:=hp.1 x hx;omega,(hk x (by simp [hx])).2⟩);simp only [List.length_cons];omega
structure Ygc (s:Sv) (ks:List Int):Prop where
 rise:ks.Pairwise (· < ·)
 rng:∀ k∈ks,0≤k∧k<8
 all:∀ n,n<8→s.chg n=true→n∈ks.map Int.toNat
 pg:∀ k∈ks,(s.pgs k.toNat).isSome=true
 len:ks.length≤8
theorem Ygc.of (g:Yar s) {ks:List Int} (h:Ylz s.mc.M ks):Ygc s ks:=by
 have hr:∀ k∈ks,(0≤k∧k<8)∧s.chg k.toNat=true:=fun k hk=>by
  have h1:=(h.mem k).1 hk;obtain ⟨n,hn,e⟩:=g.chk _ h1;have e':k=(n:Int):=by simpa [Yeo] using e
  subst e';refine ⟨⟨by omega,by omega⟩,?_⟩;show Maps.has s.mc.M (Yeo ((n:Int)).toNat)=true;rw [Int.toNat_natCast];exact h1
 refine ⟨h.rise,fun k hk=>(hr k hk).1,fun n hn hc=>?_,fun k hk=>(g.load k.toNat (by have:=(hr k hk).1;omega)).have' (hr k hk).2,?_⟩
 ·rw [List.mem_map]
  exact ⟨(n:Int),(h.mem n).2 hc,Int.toNat_natCast n⟩
 ·have:=Yst ks 0 (by omega) (by omega) h.rise (fun k hk=>(hr k hk).1)
  omega
theorem Ygc.fresh (h:Ygc s ks) (k:Nat) (hk:k<ks.length):ks[k].toNat∉(ks.take k).map Int.toNat:=fun hm=>by
 rw [List.mem_map] at hm;obtain ⟨y,hy,e⟩:=hm;rw [List.mem_take_iff_getElem] at hy;obtain ⟨j,hj,rfl⟩:=hy;have hj':j<k:=by omega
 have h1:=(List.pairwise_iff_getElem.1 h.rise) j k (by omega) hk hj';have h2:=h.rng ks[j] (List.getElem_mem _);have h3:=h.rng ks[k] (List.getElem_mem _);omega
def FlI (w1:World) (s:Sv) (ks:List Int) (k:Nat) (W:World):Prop:=∃ s',Fl s s' ((ks.take k).map Int.toNat)∧Ybg w1 W s s'
theorem FlI.row {w0 W:World} {k:Nat} (h:FlI w1 s ks k W) (hl:Yan w0 s) {v:Value} (hrow:w1.ownsRow w0.heap.size 3 1 v ks.length (ks.map (Value.int .i64))):W.ownsRow w0.heap.size 3 1 v ks.length (ks.map (Value.int .i64)):=by
 obtain ⟨s',_,hm⟩:=h;refine Yda hrow (fun q hq=>hm.off q (hrow.lt q hq).2 (fun tag ht=>?_));have:=hl.lt tag q ht;have:=(hrow.lt q hq).1;omega
structure Ysu (s s':Sv):Prop where
 nums:s'.kb=s.kb∧s'.ty=s.ty∧s'.start=s.start∧s'.turn=s.turn∧s'.len=s.len∧s'.begun=s.begun∧s'.acts=s.acts
 maps:s'.mo=s.mo∧s'.made=s.made
 parts:s'.cont=s.cont∧s'.tx=s.tx∧s'.mt=s.mt∧s'.log=s.log
 ws:s'.ws=[]
theorem Y0t (h:Yan w s) (g:Yar s) (hws:s.ws=[]) (hne:∀ n,n<8→∀ q∈s.cont n,1≤q.1.size) (hct:s.count+8≤100+s.len+1000*s.acts):
 Calls prog 81 #[.pointer (some ⟨s.kb,2,none⟩)] w fun e w'=>e=.returned (.tuple #[])∧∃ s',Ysu s s'∧Yab w w' s s':=by
 have hM:Yap w 3 s.mc.b s.mc.n s.mc.M:=h.comp .mc
 have hmn:=g.mcn
 have hln:=g.ln
 have c4:w.cell? ⟨s.kb,2+2,none⟩=some (.map (some s.mc.b)):=Yaa (h.comp .kind) (Yb1 s (j:=4) (by omega) rfl)
 have KK:Hid (Calls prog 115 #[.map (some s.mc.b)] w fun e w'=>e=.returned (.func (.func 163) #[] #[.pointer (some ⟨w.heap.size,0,none⟩)])∧w'=w.alloc (.cells #[.map (some s.mc.b)] 128)):=Y0c _ w
 have KS:=Yh (Y0f hM (by omega))
 have HCH:Hid (∀ ks,Ylz s.mc.M ks→Ygc s ks):=fun ks hk=>Ygc.of g hk
 have HST:Hid (∀ W1 ks,Below w.heap.size w W1→FlI W1 s ks 0 W1):=fun W1 ks hb=>⟨s,Fl.start g hws,Ybg.refl (h.below hb)⟩
 have HL:=Yh h
 have KW:Hid (∀ W1 W ks k,Ygc s ks→(hk:k<ks.length)→FlI W1 s ks k W→Calls prog 116 #[.pointer (some ⟨s.kb,2,none⟩),.int .i64 ks[k]] W fun e w'=>e=.returned (.tuple #[])∧FlI W1 s ks (k+1) w'):=fun W1 W ks k hc hk ⟨s',hf,hm⟩=>by
  have hr:=hc.rng ks[k] (List.getElem_mem hk);have hp:=hc.pg ks[k] (List.getElem_mem hk);have hl8:=hc.len;obtain ⟨p,hp⟩:=Option.isSome_iff_exists.1 hp;have K:=Y0n hm.lies hf g ks[k].toNat (by omega) (hc.fresh k hk) (by simp;omega) p hp (hne _ (by omega));rw [Int.toNat_of_nonneg hr.1] at K;refine K.mono ?_;rintro e w' ⟨h1,s'',h2,h3⟩;refine ⟨h1,s'',?_,hm.trans h3⟩;rw [←List.take_append_getElem hk,List.map_append];exact h2
 have KY:Hid (∀ W1 W ks,Ygc s ks→FlI W1 s ks ks.length W→Calls prog 117 #[.pointer (some ⟨s.db,0,none⟩)] W fun e w'=>e=.returned (.tuple #[])∧∃ s',Fl s s' (ks.map Int.toNat)∧Ybg W1 w' s (synced s')):=fun W1 W ks hc ⟨s',hf,hm⟩=>by
  have e1:s'.db=s.db:=by obtain ⟨c,D,ws,v,cp,rfl⟩:=hf.same;rfl
  have hl8:=hc.len;rw [←e1];have hwn:=hf.wn;refine (Y0p hm.lies hf.dsz hf.dv hf.ok (by rw [hwn];simp;omega)).mono ?_;rintro e w' ⟨h1,h2⟩;rw [List.take_length] at hf;exact ⟨h1,s',hf,hm.trans h2⟩
 have HCELL:Hid (∀ W1 W ks k,FlI W1 s ks k W→W.cell? ⟨s.kb,2,none⟩=some (.pointer (some ⟨s.vb,0,none⟩))∧W.cell? ⟨s.vb,0,none⟩=some (.pointer (some ⟨s.db,0,none⟩))):=fun W1 W ks k ⟨s',hf,hm⟩=>by
  obtain ⟨c,D,ws,v,cp,rfl⟩:=hf.same;exact ⟨Yaa (hm.lies.comp .kind) (Yb1 _ (j:=2) (by omega) rfl),Yaa (hm.lies.comp .vol) rfl⟩
 have HP1:Hid (∀ W1 W (ks:List Int),(∃ s',Fl s s' (ks.map Int.toNat)∧Ybg W1 W s (synced s'))→W.cell? ⟨s.kb,2+1,none⟩=some (.map (some s.mp.b))∧∃ W',(Builtin.clear_ #[127] 0 #[.map (some s.mp.b)]).run prog W=.ok (.tuple #[]) W'∧∃ s',Fl s s' (ks.map Int.toNat)∧Ybg W1 W' s (Yex (synced s'))):=fun W1 W ks ⟨s',hf,hm⟩=>by
  have e1:(synced s').kb=s.kb:=by obtain ⟨c,D,ws,v,cp,rfl⟩:=hf.same;rfl
  have e2:(synced s').mp=s.mp:=by obtain ⟨c,D,ws,v,cp,rfl⟩:=hf.same;rfl
  have hm1:Yap W 3 (synced s').mp.b (synced s').mp.n (synced s').mp.M:=hm.lies.comp .mp;obtain ⟨W',k1,k2,k3,k4,k5⟩:=Ysr hm1 127 _ underlying127 0;have k6:=hm.trans (Y0q hm.lies k2 k3 k4 k5);rw [e2] at k1;refine ⟨?_,W',k1,s',hf,k6⟩;have:=Yaa (hm.lies.comp .kind) (Yb1 (synced s') (j:=3) (by omega) rfl);rw [e1,e2] at this;exact this
 have HP2:Hid (∀ W1 W (ks:List Int),(∃ s',Fl s s' (ks.map Int.toNat)∧Ybg W1 W s (Yex (synced s')))→W.cell? ⟨s.kb,2+2,none⟩=some (.map (some s.mc.b))∧∃ W',(Builtin.clear_ #[128] 0 #[.map (some s.mc.b)]).run prog W=.ok (.tuple #[]) W'∧∃ s',Fl s s' (ks.map Int.toNat)∧Ybg W1 W' s (Yjd s')):=fun W1 W ks ⟨s',hf,hm⟩=>by
  have e1:(Yex (synced s')).kb=s.kb:=by obtain ⟨c,D,ws,v,cp,rfl⟩:=hf.same;rfl
  have e2:(Yex (synced s')).mc=s.mc:=by obtain ⟨c,D,ws,v,cp,rfl⟩:=hf.same;rfl
  have hm1:Yap W 3 (Yex (synced s')).mc.b (Yex (synced s')).mc.n (Yex (synced s')).mc.M:=hm.lies.comp .mc;obtain ⟨W',k1,k2,k3,k4,k5⟩:=Ysr hm1 128 _ underlying128 0;have k6:=hm.trans (Y0r hm.lies k2 k3 k4 k5);rw [e2] at k1;refine ⟨?_,W',k1,s',hf,k6⟩;have:=Yaa (hm.lies.comp .kind) (Yb1 (Yex (synced s')) (j:=4) (by omega) rfl);rw [e1,e2] at this;exact this
 have HFIN:Hid (∀ W1 W ks,Below w.heap.size w W1→Ygc s ks→(∃ s',Fl s s' (ks.map Int.toNat)∧Ybg W1 W s (Yjd s'))→∃ s',Ysu s s'∧Yab w W s s'):=fun W1 W ks hb hc ⟨s',hf,hm⟩=>by
  have hl8:=hc.len;have hgd:=hf.good g hc.all (by simp;omega);refine ⟨Yjd s',?_,((Ybg.of_below h hb).trans hm).goes hgd⟩;obtain ⟨c,D,ws,v,cp,rfl⟩:=hf.same;exact ⟨⟨rfl,rfl,rfl,rfl,rfl,rfl,rfl⟩,⟨rfl,rfl⟩,⟨rfl,rfl,rfl,rfl⟩,rfl⟩
 generalize hkb:s.kb=kb at c4 KW HCELL HP1 HP2
 generalize s.db=db at KY HCELL
 generalize s.vb=vb at HCELL
 generalize s.mc.b=cb at c4 KK KS HP2
 generalize s.mp.b=pb at HP1
 clear h g hM hne hct
 go_enter func81,ntmps81
 go_wp2_with (first
  | (go_at_call 115;go_must (
   refine KK.out.mono ?_;rintro e w0 ⟨rfl,rfl⟩))
  | (go_at_call 114;go_must (
   refine KS.out.mono ?_;rintro e w1 ⟨v,ks,rfl,hks,hrow,hb1⟩;obtain ⟨p,cap,rfl,hmax⟩:=Ya6 hrow;have HKS:Hid (Ygc s ks):=HCH.out ks hks;have HROW:=Yh hrow;have HB1:=Yh hb1;have hkl:ks.length≤8:=HKS.out.len;clear hks hrow hb1 hmax)))
 go_loopw [11] (fun i wr=>∃ k:Nat,k≤ks.length∧i=.int .i64 k∧FlI w1 s ks k wr) (fun i _=>ks.length - (intOf i).toNat)
 case atStart=>exact ⟨0,by omega,rfl,HST.out w1 ks HB1.out⟩
 case round=>
  obtain ⟨k,hk,rfl,hrd⟩:=hrel;have HRD:=Yh hrd;clear hrd;by_cases hlt:k<ks.length
  ·have hlt':(k:Int)<(ks.length:Int):=by omega
   obtain ⟨gb,cap',he⟩:=Ybn HROW.out (by omega);simp only [Value.slice.injEq] at he;obtain ⟨rfl,-,rfl⟩:=he;have c0:wr.cell? ⟨gb,k,none⟩=some (.int .i64 ks[k]):=by
    exact Yal (HRD.out.row HL.out HROW.out) (by simp [hlt])
   have KW1:Hid (∀ W,FlI w1 s ks k W→Calls prog 116 #[.pointer (some ⟨kb,2,none⟩),.int .i64 ks[k]] W fun e w'=>e=.returned (.tuple #[])∧FlI w1 s ks (k+1) w'):=fun W hW=>KW.out w1 W ks k HKS.out hlt hW
   generalize ks[k]=kk at c0 KW1;go_wp2_with (first
    | (go_at_call 116;go_must (
     refine (KW1.out _ HRD.out).mono ?_;rintro e w2 ⟨rfl,hr2⟩;have HR2:=Yh hr2;clear hr2)))
   exact ⟨⟨k+1,by omega,by simp,HR2.out⟩,by simp [intOf];omega⟩
  ·obtain rfl:k=ks.length:=by omega
   obtain ⟨m2,m0⟩:=HCELL.out w1 wr ks _ HRD.out;go_upto_region 6 with (first
    | (go_at_call 117;go_must (
     refine (KY.out w1 _ ks HKS.out HRD.out).mono ?_;rintro e w3 ⟨rfl,hr3⟩;have HR3:=Yh hr3;clear hr3)))
   obtain ⟨m3,W4,hc4,hr4⟩:=HP1.out w1 w3 ks HR3.out;have HR4:=Yh hr4;obtain ⟨m4,W5,hc5,hr5⟩:=HP2.out w1 W4 ks hr4;have HR5:=Yh hr5;clear hr4 hr5;go_wp2;go_end0;exact ⟨rfl,HFIN.out w1 W5 ks HB1.out HKS.out HR5.out⟩
end Go.Proofs.YtihbngfbcnojcaaGreat
