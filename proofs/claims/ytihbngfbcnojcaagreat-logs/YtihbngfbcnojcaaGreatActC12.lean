import Derived.Test.YtihbngfbcnojcaaGreatActC11
import Derived.Shelf.SlIterI.Nil
import Derived.Shelf.SortM.Plain
import Derived.Shelf.SortM.SortNone
set_option maxRecDepth 100000
set_option maxHeartbeats 8000000
namespace Go.Proofs.YtihbngfbcnojcaaGreat
open Go.RowKit Tryz
variable {a q:Nat} {s s':Sv} {k:TypeId} {w w':World}
def Cap (s:Sv):Prop:=∀ n,n<8→∃ L:List ByteArray,L.length≤4∧∀ k,Yfb s n k→k∈L
theorem Yja {ps:Yaf} (h:Ybi ps):(ps.map (·.1)).Nodup:=by
 have h1:=Ygr.1 h;rw [List.nodup_iff_pairwise_ne,List.pairwise_map];exact h1.imp (fun {a b} hab e=>Yek hab e)
theorem Yzt (g:Yar s) (hc:Cap s) (key:ByteArray) (hr:Ygt s key) (is:Bool) (val:ByteArray):(Yaw (s.cont (Yae key)) key is val).length≤4:=by
 obtain ⟨r1,r2,r3⟩:=g.rise _ (Ycy key);have hn:=Yja (Yfn r1 key is val);have hk:∀ k∈(Yaw (s.cont (Yae key)) key is val).map (·.1),k=key∨Yfb s (Yae key) k:=fun k hk=>by
  obtain ⟨p,hp,rfl⟩:=List.mem_map.1 hk;rcases Yhk r1 key is val hp with h1 | ⟨_,h1⟩
  ·exact .inr (.inl ⟨p,h1,rfl⟩)
  ·exact .inl (by rw [h1])
 rw [←List.length_map (f:=(·.1))];obtain ⟨L,l1,l2,l3⟩:=hr;rcases l3 with l3 | l3
 ·obtain ⟨L',m1,m2⟩:=hc _ (Ycy key)
  refine Nat.le_trans (hn.length_le_of_subset (l₂:=L') fun k hk'=>?_) m1;rcases hk k hk' with rfl | h
  ·exact m2 _ ((l2 _).1 l3)
  ·exact m2 _ h
 ·refine Nat.le_trans (hn.length_le_of_subset (l₂:=key :: L) fun k hk'=>?_) (by simp;omega)
  rcases hk k hk' with rfl | h
  ·simp
  ·exact List.mem_cons_of_mem _ ((l2 _).2 h)
structure Yc5 (w:World) (a:Nat) (k:TypeId) (s:Sv) (q:Nat):Prop where
 lies:Yan w s
 good:Yar s
 held:Yao s q
 cap:Cap s
 haw:a<w.heap.size
 hao:∀ tag,s.blk tag≠some a
 ca:w.cell? ⟨a,2,none⟩=some (.iface k (.pointer (some ⟨s.kb,0,none⟩)))
theorem Yc5.go {q':Nat} (h:Yc5 w a k s q) (g:Yab w w' s s') (hh:Yao s' q') (hc:Cap s') (hk:s'.kb=s.kb):Yc5 w' a k s' q':=
 ⟨g.lies,g.good,hh,hc,by have:=g.below.size;have:=h.haw;omega,fun tag ht=>by
  rcases g.grown tag a ht with h1 | h1
  ·exact h.hao tag h1
  ·have:=h.haw;omega,by rw [hk];exact (World.cell?_of_block (g.off a h.haw h.hao)).trans h.ca⟩
theorem Yau.roomy (h:Yau s s') (key:ByteArray):Ygt s' key↔Ygt s key:=by
 obtain ⟨P,m,rfl,_⟩:=h;exact Iff.rfl
theorem Yau.cap (h:Yau s s') (hc:Cap s):Cap s':=by
 obtain ⟨P,m,rfl,_⟩:=h;exact hc
theorem Yn5 (h:Yan w s) {a:Nat} (ha:∀ tag,s.blk tag≠some a) {b0 b1 b2 b3:Nat} (hb:∀ b∈[b0,b1,b2,b3],w.heap.size≤b):∀ b∈[b0,b1,b2,b3,a],∀ tag,s.blk tag≠some b:=fun b hb' tag ht=>by
 have:b∈[b0,b1,b2,b3]∨b=a:=by simp at hb' ⊢;omega
 rcases this with h1 | rfl
 ·have:=hb b h1;have:=h.lt tag b ht;omega
 ·exact ha tag ht
theorem Yzu (k:Bool) (L:Yc5 w a (Yb8 k) s q) (hq:q≤2000000000000) (t:Int) (ht:Yax t) (key:ByteArray) (hks:key.size≤140737488355328) (is:Bool) (val:ByteArray) (hvs:val.size≤140737488355328) (c:Int) (hf:Yi9 s t key val c):
 Calls prog 42 #[.pointer (some ⟨a,0,none⟩),.int .i64 t,.string key,.agg #[.bool is,.string val]] w fun e w'=>∃ s',e=.returned (.int .i64 c)∧Yau s s'∧Yab w w' s s':=by
 refine (Yn4 L.lies a L.haw (Yb8 k) L.ca t key is val (fun x s'=>x=c∧Yau s s') ?_).mono ?_
 ·intro W b0 b1 b2 b3 hb hbox hd hw
  have hWd:Below w.heap.size w W.drew:=hb.drew;have hnp:=Yn5 L.lies L.hao hw;have hgd:Yab W W.drew s s:=Yab.of_below (L.lies.below hb) L.good (Below.refl _ W).drew;have KM:=(Yzr (L.lies.below hWd) L.good L.held hq t ht key hks is val hvs c hf).mono (R':=fun e w'=>e=.returned (.int .i64 c)∧(∃ s',Yau s s'∧Yab W w' s s')∧Ycu w' b0 b1 b2 b3 a s.kb (Yb8 k) t key is val) (by
   rintro e w' ⟨h1,s',h2,h3⟩;have h4:=hgd.trans h3;exact ⟨h1,⟨s',h2,h4⟩,hbox.goes h4 hnp⟩)
  cases k with
  | true=>
   refine (Yzm b0 b1 b2 b3 a s.kb t key is val c hf.ne W _ hbox KM).mono ?_;rintro e w' ⟨h1,s',h2,h3⟩;exact ⟨c,s',h1,⟨rfl,h2⟩,h3⟩
  | false=>
   refine (Yzo b0 b1 b2 b3 a s.kb t key is val c hf.ne W _ hbox KM).mono ?_;rintro e w' ⟨h1,s',h2,h3⟩;exact ⟨c,s',h1,⟨rfl,h2⟩,h3⟩
 ·rintro e w' ⟨x,s',h1,⟨rfl,h2⟩,h3⟩
  exact ⟨s',h1,h2,h3⟩
theorem Yzv (L:Yc5 w a 234 s q) (hq:q≤1999999999999) (hlen:s.len≤390) (t:Int) (ht:0≤t∧t<256) (x:TxE) (hx:s.tx t=some x) (hlast:x.last≤s.len) (key:ByteArray) (hks:key.size≤8) (is:Bool) (val:ByteArray) (hf:Ylv s t key val) (hnv:is=false→val.size=0):
 Calls prog 42 #[.pointer (some ⟨a,0,none⟩),.int .i64 t,.string key,.agg #[.bool is,.string val]] w fun e w'=>e=.returned (.int .i64 0)∧∃ s1 s',Yau s s1∧Yic s1 s' t x key is val∧Yab w w' s s'∧Yao s' (q+1):=by
 have hti:Yax t:=⟨by omega,by omega⟩
 have hvs:=hf.size
 refine (Yn4 L.lies a L.haw 234 L.ca t key is val (fun c s'=>c=0∧∃ s1,Yau s s1∧Yic s1 s' t x key is val∧Yao s' (q+1)) ?_).mono ?_
 ·intro W b0 b1 b2 b3 hb hbox hd hw
  have hWd:Below w.heap.size w W.drew:=hb.drew;have hnp:=Yn5 L.lies L.hao hw;have hgd:Yab W W.drew s s:=Yab.of_below (L.lies.below hb) L.good (Below.refl _ W).drew;refine (Yzn b0 b1 b2 b3 a s.kb t key (by omega) is val (by omega) W (fun w'=>∃ s1,Yau s s1∧Yab W w' s s1) (fun w'=>∃ s',(∃ s1,Yau s s1∧Yic s1 s' t x key is val∧Yao s' (q+1))∧Yab W w' s s') hbox hd ?_ ?_).mono ?_
  ·refine (Ysf (L.lies.below hWd) L.good L.held (by omega) t hti key (by omega) is val hf).mono ?_
   rintro e w' ⟨h1,s',h2,h3⟩;have h4:=hgd.trans h3;exact ⟨h1,⟨s',h2,h4⟩,hbox.goes h4 hnp⟩
  ·rintro w1 W' ⟨s1,h1,h2⟩ hz hk hb0
   have h3:Yab W W' s s1:=h2.trans (Yab.of_below h2.lies h2.good ⟨hb0.os,hb0.tape,hb0.output,hz,hk⟩);have h1':=h1;obtain ⟨P,m,rfl,hm⟩:=h1';refine (Yx8 h3.lies h3.good (h1.held L.held) hq hf.acts hlen t ht x hx hlast key hks is val hvs hnv (Yzt h3.good (h1.cap L.cap) key ((h1.roomy key).2 hf.room) is val)).mono ?_;rintro e w' ⟨k1,s',k2,k3,k4⟩;exact ⟨k1,⟨s',⟨_,h1,k2,k4⟩,h3.trans k3⟩,hbox.goes (h3.trans k3) hnp⟩
  ·rintro e w' ⟨h1,s',h2,h3⟩
   exact ⟨0,s',h1,⟨rfl,h2⟩,h3⟩
 ·rintro e w' ⟨c,s',h1,⟨rfl,s1,h2,h3,h4⟩,h5⟩
  exact ⟨h1,s1,s',h2,h3,h5,h4⟩
theorem Yau.made (h:Yau s s') {md:Ybh} (hm:Ya7 s md):Ya7 s' md:=by
 obtain ⟨P,m,rfl,_⟩:=h;exact ⟨hm.made,hm.have',hm.lack,hm.cells,hm.num⟩
theorem Yzw {md:Ybh} (L:Yc5 w a 224 s q) (hm:Ya7 s md) (hq:q≤1999999999999) (t:Int) (hti:Yax t) (x:TxE) (hx:s.tx t=some x) (key:ByteArray) (hks:key.size≤8) (is:Bool) (val:ByteArray) (hf:Ylv s t key val):
 Calls prog 42 #[.pointer (some ⟨a,0,none⟩),.int .i64 t,.string key,.agg #[.bool is,.string val]] w fun e w'=>e=.returned (.int .i64 0)∧∃ s1 s',Yau s s1∧Ygs s1 s' md t x key is val∧Yab w w' s s'∧Yao s' (q+1):=by
 have hvs:=hf.size
 refine (Yn4 L.lies a L.haw 224 L.ca t key is val (fun c s'=>c=0∧∃ s1,Yau s s1∧Ygs s1 s' md t x key is val∧Yao s' (q+1)) ?_).mono ?_
 ·intro W b0 b1 b2 b3 hb hbox hd hw
  have hWd:Below w.heap.size w W.drew:=hb.drew;have hnp:=Yn5 L.lies L.hao hw;have hgd:Yab W W.drew s s:=Yab.of_below (L.lies.below hb) L.good (Below.refl _ W).drew;refine (Yzp b0 b1 b2 b3 a s.kb t key (by omega) is val (by omega) W (fun w'=>∃ s1,Yau s s1∧Yab W w' s s1) (fun w'=>∃ s',(∃ s1,Yau s s1∧Ygs s1 s' md t x key is val∧Yao s' (q+1))∧Yab W w' s s') hbox hd ?_ ?_).mono ?_
  ·refine (Ysf (L.lies.below hWd) L.good L.held (by omega) t hti key (by omega) is val hf).mono ?_
   rintro e w' ⟨h1,s',h2,h3⟩;have h4:=hgd.trans h3;exact ⟨h1,⟨s',h2,h4⟩,hbox.goes h4 hnp⟩
  ·rintro w1 W' ⟨s1,h1,h2⟩ hz hk hb0
   have h3:Yab W W' s s1:=h2.trans (Yab.of_below h2.lies h2.good ⟨hb0.os,hb0.tape,hb0.output,hz,hk⟩);have h1':=h1;obtain ⟨P,m,rfl,hm'⟩:=h1';refine (Yyh h3.lies h3.good (h1.held L.held) (h1.made hm) hq hf.acts t hti x hx key hks is val hvs).mono ?_;rintro e w' ⟨k1,s',k2,k3,k4⟩;exact ⟨k1,⟨s',⟨_,h1,k2,k4⟩,h3.trans k3⟩,hbox.goes (h3.trans k3) hnp⟩
  ·rintro e w' ⟨h1,s',h2,h3⟩
   exact ⟨0,s',h1,⟨rfl,h2⟩,h3⟩
 ·rintro e w' ⟨c,s',h1,⟨rfl,s1,h2,h3,h4⟩,h5⟩
  exact ⟨h1,s1,s',h2,h3,h5,h4⟩
theorem Yzx (a:Nat) (t:Int) (key val:ByteArray) (w:World) (R:Int→World→Prop) (K:Calls prog 42 #[.pointer (some ⟨a,0,none⟩),.int .i64 t,.string key,.agg #[.bool true,.string val]] w fun e w'=>∃ c,e=.returned (.int .i64 c)∧R c w'):
 Calls prog 20 #[.pointer (some ⟨a,0,none⟩),.int .i64 t,.string key,.string val] w fun e w'=>∃ c,e=.returned (.int .i64 c)∧R c w':=by
 have HK:=Yh K
 clear K
 go_enter func20,ntmps20
 go_wp2_with (first
  | (go_at_call 42;go_must (refine HK.out.mono ?_;rintro e w' ⟨c,rfl,hr⟩;have HR:=Yh hr;clear hr)))
 go_ret
 exact ⟨c,rfl,HR.out⟩
theorem Yzy (a:Nat) (t:Int) (key:ByteArray) (w:World) (R:Int→World→Prop) (K:Calls prog 42 #[.pointer (some ⟨a,0,none⟩),.int .i64 t,.string key,.agg #[.bool false,.string ByteArray.empty]] w fun e w'=>∃ c,e=.returned (.int .i64 c)∧R c w'):
 Calls prog 24 #[.pointer (some ⟨a,0,none⟩),.int .i64 t,.string key] w fun e w'=>∃ c,e=.returned (.int .i64 c)∧R c w':=by
 have HK:=Yh K
 clear K
 go_enter func24,ntmps24
 go_wp2_with (first
  | (go_at_call 42;go_must (refine HK.out.mono ?_;rintro e w' ⟨c,rfl,hr⟩;have HR:=Yh hr;clear hr)))
 go_ret
 exact ⟨c,rfl,HR.out⟩
structure Yjb (w:World) (c0 c1 c2 a kb:Nat) (k:TypeId) (t:Int) (f:Nat) (cap:Array Value):Prop where
 h0:w.cell? ⟨c0,0,none⟩=some (.pointer (some ⟨a,0,none⟩))
 h1:w.cell? ⟨c1,0,none⟩=some (.int .i64 t)
 h2:w.cell? ⟨c2,0,none⟩=some (.func (.func f) #[] cap)
 ca:w.cell? ⟨a,2,none⟩=some (.iface k (.pointer (some ⟨kb,0,none⟩)))
theorem Yjb.below {c0 c1 c2 kb:Nat} {t:Int} {f:Nat} {cap:Array Value} (h:Yjb w c0 c1 c2 a kb k t f cap) (hb:Below w.heap.size w w'):Yjb w' c0 c1 c2 a kb k t f cap:=
 ⟨(hb.cell (World.block_lt_of_cell? w _ h.h0)).trans h.h0,(hb.cell (World.block_lt_of_cell? w _ h.h1)).trans h.h1,(hb.cell (World.block_lt_of_cell? w _ h.h2)).trans h.h2,(hb.cell (World.block_lt_of_cell? w _ h.ca)).trans h.ca⟩
theorem Ysg (h:Yan w s) (a:Nat) (haw:a<w.heap.size) (k:TypeId) (ca:w.cell? ⟨a,2,none⟩=some (.iface k (.pointer (some ⟨s.kb,0,none⟩)))) (t:Int) (f:Nat) (cap:Array Value) (Q:Int→Sv→Prop)
 (KD:∀ W c0 c1 c2,Below w.heap.size w W→Yjb W c0 c1 c2 a s.kb k t f cap→Calls prog 69 #[.pointer (some ⟨c0,0,none⟩),.pointer (some ⟨c1,0,none⟩),.pointer (some ⟨c2,0,none⟩)] W fun e w'=>∃ x s',e=.returned (.int .i64 x)∧Q x s'∧Yab W w' s s'):
 Calls prog 43 #[.pointer (some ⟨a,0,none⟩),.int .i64 t,.func (.func f) #[] cap] w fun e w'=>∃ x s',e=.returned (.int .i64 x)∧Q x s'∧Yab w w' s s':=by
 obtain ⟨W3,hW3⟩:∃ W3,W3=((w.alloc (.cells #[.pointer (some ⟨a,0,none⟩)] 26)).alloc (.cells #[.int .i64 t] 3)).alloc (.cells #[.func (.func f) #[] cap] 1):=⟨_,rfl⟩
 have hz:W3.heap.size=w.heap.size+3:=by rw [hW3];simp
 have hb3:Below w.heap.size w W3:=by rw [hW3];exact (((Below.refl _ w).alloc (Nat.le_refl _) _).alloc (by simp) _).alloc (by simp;omega) _
 have g0:W3.heap[w.heap.size]? = some (.cells #[.pointer (some ⟨a,0,none⟩)] 26 (0,0)):=by
  rw [hW3,Below.heap_alloc _ _ _ (by simp;omega),Below.heap_alloc _ _ _ (by simp)];exact heap_alloc_new _ _
 have g1:W3.heap[w.heap.size+1]? = some (.cells #[.int .i64 t] 3 (0,0)):=by
  rw [hW3,Below.heap_alloc _ _ _ (by simp)];simpa using heap_alloc_new (w.alloc (.cells #[.pointer (some ⟨a,0,none⟩)] 26)) _
 have g2:W3.heap[w.heap.size+2]? = some (.cells #[.func (.func f) #[] cap] 1 (0,0)):=by
  rw [hW3];simpa using heap_alloc_new ((w.alloc (.cells #[.pointer (some ⟨a,0,none⟩)] 26)).alloc (.cells #[.int .i64 t] 3)) _
 have ca3:W3.cell? ⟨a,2,none⟩=some (.iface k (.pointer (some ⟨s.kb,0,none⟩))):=(hb3.cell haw).trans ca
 have KA:Hid (Calls prog 53 #[.pointer (some ⟨a,0,none⟩),.func (.func 69) #[] #[.pointer (some ⟨w.heap.size,0,none⟩),.pointer (some ⟨w.heap.size+1,0,none⟩),.pointer (some ⟨w.heap.size+2,0,none⟩)]] W3 fun e w'=>∃ x s',e=.returned (.int .i64 x)∧Q x s'∧Yab w w' s s'):=by
  refine (Yn3 a k _ 69 _ W3 (fun x w'=>∃ W s',Below w.heap.size w W∧W.heap.size=W3.heap.size+2∧Q x s'∧Yab W w' s s') ca3 ?_ (fun args w=>rfl)).mono ?_
  ·intro o1 o2
   have hb5:Below W3.heap.size W3 (W3.alloc o1):=(Below.refl _ W3).alloc (Nat.le_refl _) _;have hb6:Below W3.heap.size W3 ((W3.alloc o1).alloc o2):=hb5.alloc (by simp) _;have hbw:Below w.heap.size w ((W3.alloc o1).alloc o2):=hb3.trans (hb6.mono (by omega));have hbox:Yjb ((W3.alloc o1).alloc o2) w.heap.size (w.heap.size+1) (w.heap.size+2) a s.kb k t f cap:=
    Yjb.below ⟨Yaa (j:=0) g0 rfl,Yaa (j:=0) g1 rfl,Yaa (j:=0) g2 rfl,ca3⟩ hb6
   refine (KD _ _ _ _ hbw hbox).mono ?_;rintro e w' ⟨x,s',rfl,h1,h2⟩;refine ⟨x,rfl,?_,_,s',hbw,by simp,h1,h2⟩;exact ((h2.own h (q:=W3.heap.size+1) (by omega) (by simp)).1).trans (by simpa using heap_alloc_new (W3.alloc o1) o2)
  ·rintro e w' ⟨x,w1,rfl,⟨W,s',h1,h2,h3,h4⟩,rfl⟩
   refine ⟨x,s',rfl,h3,Yab.wrap h h1 h4 (fun q _ hq=>?_) ((Below.refl _ _).setCell (p:=⟨W3.heap.size+1,0,none⟩) (by simp) _)⟩;exact Below.heap_setCell _ _ _ _ (by show q≠W3.heap.size+1;omega)
 clear KD h ca ca3 g0 g1 g2 hb3
 have hmf:∀ (fn:Fn) (first cap:Array Value) (w:World),(Instr.makeFunc fn first cap).run prog w=.ok (.func fn first cap) w:=fun _ _ _ _=>rfl
 subst hW3
 generalize Yab w=GO at KA ⊢
 go_enter func43,ntmps43
 go_wp2_with (first
  | (go_at_call 53;go_must (
   refine KA.out.mono ?_;rintro e w1 ⟨x,s',rfl,h1,h2⟩;have HX:Hid (Q x s'∧GO w1 s s'):=⟨h1,h2⟩;clear h1 h2)))
 go_ret
 exact ⟨x,s',rfl,HX.out⟩
theorem Ysh {W:World} (h:Yan W s) (g:Yar s) (t:Int) (ht:Yax t) (c:Int) (hc:c=if (s.tx t).isSome then 0 else 5):∀ W',W'.heap=W.heap→Calls prog 278 #[.pointer (some ⟨s.kb,0,none⟩),.int .i64 t] W' fun e w'=>e=.returned (.int .i64 c)∧W'=w':=fun W' hW=>by
 rw [hc];exact Yyl (h.frame (fun tag k _=>by rw [hW]) (by rw [hW];exact Nat.le_refl _)) g t ht
theorem Ysi (k:Bool) (L:Yc5 w a (Yb8 k) s q) (t:Int) (ht:Yax t) (hx:s.tx t=none) (f:Nat) (cap:Array Value):
 Calls prog 43 #[.pointer (some ⟨a,0,none⟩),.int .i64 t,.func (.func f) #[] cap] w fun e w'=>e=.returned (.int .i64 5)∧Yab w w' s s:=by
 refine (Ysg L.lies a L.haw (Yb8 k) L.ca t f cap (fun x s'=>x=5∧s'=s) ?_).mono ?_
 ·intro W c0 c1 c2 hb hbox
  have KM:=Ysh (L.lies.below hb) L.good t ht 5 (by rw [hx];rfl)
  cases k with
  | true=>
   refine (Yzg c0 c1 c2 a s.kb t W hbox.h0 hbox.h1 hbox.ca KM).mono ?_;rintro e w' ⟨h1,h2⟩;exact ⟨5,s,h1,⟨rfl,rfl⟩,Yab.of_below (L.lies.below hb) L.good h2⟩
  | false=>
   refine (Yzi c0 c1 c2 a s.kb t W hbox.h0 hbox.h1 hbox.ca KM).mono ?_;rintro e w' ⟨h1,h2⟩;exact ⟨5,s,h1,⟨rfl,rfl⟩,Yab.of_below (L.lies.below hb) L.good h2⟩
 ·rintro e w' ⟨x,s',h1,⟨rfl,rfl⟩,h2⟩
  exact ⟨h1,h2⟩
theorem Ylw (k:Bool) (L:Yc5 w a (Yb8 k) s q) (t:Int) (ht:Yax t) (x:TxE) (hx:s.tx t=some x) (f:Nat) (cap:Array Value) (Q:Sv→Prop)
 (KH:∀ W,Below w.heap.size w W→Calls prog f cap W fun e w'=>e=.returned (.tuple #[])∧∃ s',Q s'∧Yab W w' s s') (hen:∀ args w,(callFunc f args).run prog w=.ok (.enter f args) w):
 Calls prog 43 #[.pointer (some ⟨a,0,none⟩),.int .i64 t,.func (.func f) #[] cap] w fun e w'=>e=.returned (.int .i64 0)∧∃ s',Q s'∧Yab w w' s s':=by
 refine (Ysg L.lies a L.haw (Yb8 k) L.ca t f cap (fun x s'=>x=0∧Q s') ?_).mono ?_
 ·intro W c0 c1 c2 hb hbox
  have KM:=Ysh (L.lies.below hb) L.good t ht 0 (by rw [hx];rfl);have hgd:Yab W W.drew s s:=Yab.of_below (L.lies.below hb) L.good (Below.refl _ W).drew;have KH':=(KH W.drew hb.drew).mono (R':=fun e w'=>e=.returned (.tuple #[])∧∃ s',Q s'∧Yab W w' s s') (by
   rintro e w' ⟨h1,s',h2,h3⟩;exact ⟨h1,s',h2,hgd.trans h3⟩)
  cases k with
  | true=>
   refine (Yzh c0 c1 c2 a s.kb f cap t W _ hbox.h0 hbox.h1 hbox.h2 hbox.ca KM KH' hen).mono ?_;rintro e w' ⟨h1,s',h2,h3⟩;exact ⟨0,s',h1,⟨rfl,h2⟩,h3⟩
  | false=>
   refine (Yzj c0 c1 c2 a s.kb f cap t W _ hbox.h0 hbox.h1 hbox.h2 hbox.ca KM KH' hen).mono ?_;rintro e w' ⟨h1,s',h2,h3⟩;exact ⟨0,s',h1,⟨rfl,h2⟩,h3⟩
 ·rintro e w' ⟨c,s',h1,⟨rfl,h2⟩,h3⟩
  exact ⟨h1,s',h2,h3⟩
theorem Yzz (b0 b1 a kb:Nat) (t:Int) (w:World) (R:World→Prop) (h0:w.cell? ⟨b0,0,none⟩=some (.pointer (some ⟨a,0,none⟩))) (h1:w.cell? ⟨b1,0,none⟩=some (.int .i64 t)) (ca:w.cell? ⟨a,2,none⟩=some (.iface 234 (.pointer (some ⟨kb,0,none⟩))))
 (KC:Calls prog 299 #[.pointer (some ⟨kb,0,none⟩),.int .i64 t] w.drew fun e w'=>e=.returned (.tuple #[])∧R w'∧w'.cell? ⟨b0,0,none⟩=some (.pointer (some ⟨a,0,none⟩))∧w'.cell? ⟨b1,0,none⟩=some (.int .i64 t)∧w'.cell? ⟨a,2,none⟩=some (.iface 234 (.pointer (some ⟨kb,0,none⟩)))):
 Calls prog 46 #[.pointer (some ⟨b0,0,none⟩),.pointer (some ⟨b1,0,none⟩)] w fun e w'=>e=.returned (.tuple #[])∧R w':=by
 have HKC:=Yh KC
 have hme:=Yzb
 clear KC
 go_enter func46,ntmps46
 go_region_held3 (fun w'=>w'.cell? ⟨b0,0,none⟩=some (.pointer (some ⟨a,0,none⟩))∧w'.cell? ⟨b1,0,none⟩=some (.int .i64 t)∧w'.cell? ⟨a,2,none⟩=some (.iface 234 (.pointer (some ⟨kb,0,none⟩))))
  (go_keep)
  (first
   | (go_at_call 299;go_must (
    refine HKC.out.mono ?_;rintro e w1 ⟨rfl,hr,k0,k1,k2⟩;have HR:=Yh hr;clear hr)))
 all_goals
  go_wp2;go_end0;exact ⟨rfl,HR.out⟩
theorem Yz0 (b0 b1 a kb:Nat) (t:Int) (w:World) (R:World→Prop) (h0:w.cell? ⟨b0,0,none⟩=some (.pointer (some ⟨a,0,none⟩))) (h1:w.cell? ⟨b1,0,none⟩=some (.int .i64 t)) (ca:w.cell? ⟨a,2,none⟩=some (.iface 224 (.pointer (some ⟨kb,0,none⟩))))
 (KC:Calls prog 272 #[.pointer (some ⟨kb,0,none⟩),.int .i64 t] w.drew fun e w'=>e=.returned (.tuple #[])∧R w'∧w'.cell? ⟨b0,0,none⟩=some (.pointer (some ⟨a,0,none⟩))∧w'.cell? ⟨b1,0,none⟩=some (.int .i64 t)∧w'.cell? ⟨a,2,none⟩=some (.iface 224 (.pointer (some ⟨kb,0,none⟩)))):
 Calls prog 46 #[.pointer (some ⟨b0,0,none⟩),.pointer (some ⟨b1,0,none⟩)] w fun e w'=>e=.returned (.tuple #[])∧R w':=by
 have HKC:=Yh KC
 have hme:=Yze
 clear KC
 go_enter func46,ntmps46
 go_region_held3 (fun w'=>w'.cell? ⟨b0,0,none⟩=some (.pointer (some ⟨a,0,none⟩))∧w'.cell? ⟨b1,0,none⟩=some (.int .i64 t)∧w'.cell? ⟨a,2,none⟩=some (.iface 224 (.pointer (some ⟨kb,0,none⟩))))
  (go_keep)
  (first
   | (go_at_call 272;go_must (
    refine HKC.out.mono ?_;rintro e w1 ⟨rfl,hr,k0,k1,k2⟩;have HR:=Yh hr;clear hr)))
 all_goals
  go_wp2;go_end0;exact ⟨rfl,HR.out⟩
theorem Yn6 (h:Yan w s) (a:Nat) (t:Int) (Q:Int→Sv→Prop)
 (KE:∀ W,Below w.heap.size w W→W.cell? ⟨w.heap.size,0,none⟩=some (.pointer (some ⟨a,0,none⟩))→W.cell? ⟨w.heap.size+1,0,none⟩=some (.int .i64 t)→Calls prog 43 #[.pointer (some ⟨a,0,none⟩),.int .i64 t,.func (.func 44) #[] #[.pointer (some ⟨w.heap.size,0,none⟩),.pointer (some ⟨w.heap.size+1,0,none⟩)]] W fun e w'=>∃ x s',e=.returned (.int .i64 x)∧Q x s'∧Yab W w' s s'):
 Calls prog 21 #[.pointer (some ⟨a,0,none⟩),.int .i64 t] w fun e w'=>∃ x s',e=.returned (.int .i64 x)∧Q x s'∧Yab w w' s s':=by
 obtain ⟨W2,hW2⟩:∃ W2,W2=(w.alloc (.cells #[.pointer (some ⟨a,0,none⟩)] 26)).alloc (.cells #[.int .i64 t] 3):=⟨_,rfl⟩
 have hb2:Below w.heap.size w W2:=by rw [hW2];exact ((Below.refl _ w).alloc (Nat.le_refl _) _).alloc (by simp) _
 have g0:W2.heap[w.heap.size]? = some (.cells #[.pointer (some ⟨a,0,none⟩)] 26 (0,0)):=by
  rw [hW2,Below.heap_alloc _ _ _ (by simp)];exact heap_alloc_new _ _
 have g1:W2.heap[w.heap.size+1]? = some (.cells #[.int .i64 t] 3 (0,0)):=by
  rw [hW2];simpa using heap_alloc_new (w.alloc (.cells #[.pointer (some ⟨a,0,none⟩)] 26)) _
 have KA:Hid (Calls prog 43 #[.pointer (some ⟨a,0,none⟩),.int .i64 t,.func (.func 44) #[] #[.pointer (some ⟨w.heap.size,0,none⟩),.pointer (some ⟨w.heap.size+1,0,none⟩)]] W2 fun e w'=>∃ x s',e=.returned (.int .i64 x)∧Q x s'∧Yab w w' s s'):=by
  refine (KE W2 hb2 (Yaa (j:=0) g0 rfl) (Yaa (j:=0) g1 rfl)).mono ?_;rintro e w' ⟨x,s',h1,h2,h3⟩;exact ⟨x,s',h1,h2,Yab.wrap h hb2 h3 (fun _ _ _=>rfl) (Below.refl _ _)⟩
 clear KE h g0 g1 hb2
 have hmf:∀ (fn:Fn) (first cap:Array Value) (w:World),(Instr.makeFunc fn first cap).run prog w=.ok (.func fn first cap) w:=fun _ _ _ _=>rfl
 subst hW2
 generalize Yab w=GO at KA ⊢
 go_enter func21,ntmps21
 go_wp2_with (first
  | (go_at_call 43;go_must (
   refine KA.out.mono ?_;rintro e w1 ⟨x,s',rfl,h1,h2⟩;have HX:Hid (Q x s'∧GO w1 s s'):=⟨h1,h2⟩;clear h1 h2)))
 go_ret
 exact ⟨x,s',rfl,HX.out⟩
theorem Yz1 (L:Yc5 w a 234 s q) (t:Int) (ht:Yax t) (x:TxE) (hx:s.tx t=some x) (Q:Sv→Prop)
 (KC:∀ W,Yan W s→Calls prog 300 #[.pointer (some ⟨s.kb,0,none⟩),.int .i64 t] W fun e w'=>e=.returned (.tuple #[])∧∃ s',Q s'∧Yab W w' s s'):
 Calls prog 21 #[.pointer (some ⟨a,0,none⟩),.int .i64 t] w fun e w'=>e=.returned (.int .i64 0)∧∃ s',Q s'∧Yab w w' s s':=by
 refine (Yn6 L.lies a t (fun x s'=>x=0∧Q s') ?_).mono ?_
 ·intro W hb h0 h1
  have LW:Yc5 W a (Yb8 true) s q:=L.go (Yab.of_below L.lies L.good hb) L.held L.cap rfl;have hs0:=World.block_lt_of_cell? W _ h0;have hs1:=World.block_lt_of_cell? W _ h1;simp only at hs0 hs1;refine (Ylw true LW t ht x hx _ _ Q ?_ (fun args w=>rfl)).mono ?_
  ·intro W' hb'
   have hgd:Yab W' W'.drew s s:=Yab.of_below (LW.lies.below hb') L.good (Below.refl _ W').drew;have hg0:Yab W W' s s:=Yab.of_below LW.lies L.good hb';refine Yzc w.heap.size (w.heap.size+1) a s.kb t W' _ ((hb'.cell (p:=⟨w.heap.size,0,none⟩) hs0).trans h0) ((hb'.cell (p:=⟨w.heap.size+1,0,none⟩) hs1).trans h1) ((hb'.cell (p:=⟨a,2,none⟩) LW.haw).trans LW.ca) ?_;refine (KC W'.drew (LW.lies.below hb'.drew)).mono ?_;rintro e w' ⟨k1,s',k2,k3⟩;have k4:=hgd.trans k3;have hsz:=hb'.size;exact ⟨k1,⟨s',k2,k4⟩,(World.cell?_of_block (k4.off w.heap.size (by omega) (fun tag ht=>by have:=L.lies.lt tag _ ht;omega))).trans ((hb'.cell (p:=⟨w.heap.size,0,none⟩) hs0).trans h0),(World.cell?_of_block (k4.off (w.heap.size+1) (by omega) (fun tag ht=>by have:=L.lies.lt tag _ ht;omega))).trans ((hb'.cell (p:=⟨w.heap.size+1,0,none⟩) hs1).trans h1),
    (World.cell?_of_block (k4.off a (by have:=LW.haw;omega) L.hao)).trans ((hb'.cell (p:=⟨a,2,none⟩) LW.haw).trans LW.ca)⟩
  ·rintro e w' ⟨k1,s',k2,k3⟩
   exact ⟨0,s',k1,⟨rfl,k2⟩,k3⟩
 ·rintro e w' ⟨c,s',h1,⟨rfl,h2⟩,h3⟩
  exact ⟨h1,s',h2,h3⟩
theorem Ysj (L:Yc5 w a 224 s q) (t:Int) (ht:Yax t) (x:TxE) (hx:s.tx t=some x) (Q:Sv→Prop)
 (KC:∀ W,Yan W s→Calls prog 275 #[.pointer (some ⟨s.kb,0,none⟩),.int .i64 t] W fun e w'=>e=.returned (.tuple #[])∧∃ s',Q s'∧Yab W w' s s'):
 Calls prog 21 #[.pointer (some ⟨a,0,none⟩),.int .i64 t] w fun e w'=>e=.returned (.int .i64 0)∧∃ s',Q s'∧Yab w w' s s':=by
 refine (Yn6 L.lies a t (fun x s'=>x=0∧Q s') ?_).mono ?_
 ·intro W hb h0 h1
  have LW:Yc5 W a (Yb8 false) s q:=L.go (Yab.of_below L.lies L.good hb) L.held L.cap rfl;have hs0:=World.block_lt_of_cell? W _ h0;have hs1:=World.block_lt_of_cell? W _ h1;simp only at hs0 hs1;refine (Ylw false LW t ht x hx _ _ Q ?_ (fun args w=>rfl)).mono ?_
  ·intro W' hb'
   have hgd:Yab W' W'.drew s s:=Yab.of_below (LW.lies.below hb') L.good (Below.refl _ W').drew;have hg0:Yab W W' s s:=Yab.of_below LW.lies L.good hb';refine Yzf w.heap.size (w.heap.size+1) a s.kb t W' _ ((hb'.cell (p:=⟨w.heap.size,0,none⟩) hs0).trans h0) ((hb'.cell (p:=⟨w.heap.size+1,0,none⟩) hs1).trans h1) ((hb'.cell (p:=⟨a,2,none⟩) LW.haw).trans LW.ca) ?_;refine (KC W'.drew (LW.lies.below hb'.drew)).mono ?_;rintro e w' ⟨k1,s',k2,k3⟩;have k4:=hgd.trans k3;have hsz:=hb'.size;exact ⟨k1,⟨s',k2,k4⟩,(World.cell?_of_block (k4.off w.heap.size (by omega) (fun tag ht=>by have:=L.lies.lt tag _ ht;omega))).trans ((hb'.cell (p:=⟨w.heap.size,0,none⟩) hs0).trans h0),(World.cell?_of_block (k4.off (w.heap.size+1) (by omega) (fun tag ht=>by have:=L.lies.lt tag _ ht;omega))).trans ((hb'.cell (p:=⟨w.heap.size+1,0,none⟩) hs1).trans h1),
    (World.cell?_of_block (k4.off a (by have:=LW.haw;omega) L.hao)).trans ((hb'.cell (p:=⟨a,2,none⟩) LW.haw).trans LW.ca)⟩
  ·rintro e w' ⟨k1,s',k2,k3⟩
   exact ⟨0,s',k1,⟨rfl,k2⟩,k3⟩
 ·rintro e w' ⟨c,s',h1,⟨rfl,h2⟩,h3⟩
  exact ⟨h1,s',h2,h3⟩
theorem Yn7 (h:Yan w s) (a:Nat) (t:Int) (Q:Int→Sv→Prop)
 (KE:∀ W,Below w.heap.size w W→W.cell? ⟨w.heap.size,0,none⟩=some (.pointer (some ⟨a,0,none⟩))→W.cell? ⟨w.heap.size+1,0,none⟩=some (.int .i64 t)→Calls prog 43 #[.pointer (some ⟨a,0,none⟩),.int .i64 t,.func (.func 46) #[] #[.pointer (some ⟨w.heap.size,0,none⟩),.pointer (some ⟨w.heap.size+1,0,none⟩)]] W fun e w'=>∃ x s',e=.returned (.int .i64 x)∧Q x s'∧Yab W w' s s'):
 Calls prog 25 #[.pointer (some ⟨a,0,none⟩),.int .i64 t] w fun e w'=>∃ x s',e=.returned (.int .i64 x)∧Q x s'∧Yab w w' s s':=by
 obtain ⟨W2,hW2⟩:∃ W2,W2=(w.alloc (.cells #[.pointer (some ⟨a,0,none⟩)] 26)).alloc (.cells #[.int .i64 t] 3):=⟨_,rfl⟩
 have hb2:Below w.heap.size w W2:=by rw [hW2];exact ((Below.refl _ w).alloc (Nat.le_refl _) _).alloc (by simp) _
 have g0:W2.heap[w.heap.size]? = some (.cells #[.pointer (some ⟨a,0,none⟩)] 26 (0,0)):=by
  rw [hW2,Below.heap_alloc _ _ _ (by simp)];exact heap_alloc_new _ _
 have g1:W2.heap[w.heap.size+1]? = some (.cells #[.int .i64 t] 3 (0,0)):=by
  rw [hW2];simpa using heap_alloc_new (w.alloc (.cells #[.pointer (some ⟨a,0,none⟩)] 26)) _
 have KA:Hid (Calls prog 43 #[.pointer (some ⟨a,0,none⟩),.int .i64 t,.func (.func 46) #[] #[.pointer (some ⟨w.heap.size,0,none⟩),.pointer (some ⟨w.heap.size+1,0,none⟩)]] W2 fun e w'=>∃ x s',e=.returned (.int .i64 x)∧Q x s'∧Yab w w' s s'):=by
  refine (KE W2 hb2 (Yaa (j:=0) g0 rfl) (Yaa (j:=0) g1 rfl)).mono ?_;rintro e w' ⟨x,s',h1,h2,h3⟩;exact ⟨x,s',h1,h2,Yab.wrap h hb2 h3 (fun _ _ _=>rfl) (Below.refl _ _)⟩
 clear KE h g0 g1 hb2
 have hmf:∀ (fn:Fn) (first cap:Array Value) (w:World),(Instr.makeFunc fn first cap).run prog w=.ok (.func fn first cap) w:=fun _ _ _ _=>rfl
 subst hW2
 generalize Yab w=GO at KA ⊢
 go_enter func25,ntmps25
 go_wp2_with (first
  | (go_at_call 43;go_must (
   refine KA.out.mono ?_;rintro e w1 ⟨x,s',rfl,h1,h2⟩;have HX:Hid (Q x s'∧GO w1 s s'):=⟨h1,h2⟩;clear h1 h2)))
 go_ret
 exact ⟨x,s',rfl,HX.out⟩
theorem Yz2 (L:Yc5 w a 234 s q) (t:Int) (ht:Yax t) (x:TxE) (hx:s.tx t=some x) (Q:Sv→Prop)
 (KC:∀ W,Yan W s→Calls prog 299 #[.pointer (some ⟨s.kb,0,none⟩),.int .i64 t] W fun e w'=>e=.returned (.tuple #[])∧∃ s',Q s'∧Yab W w' s s'):
 Calls prog 25 #[.pointer (some ⟨a,0,none⟩),.int .i64 t] w fun e w'=>e=.returned (.int .i64 0)∧∃ s',Q s'∧Yab w w' s s':=by
 refine (Yn7 L.lies a t (fun x s'=>x=0∧Q s') ?_).mono ?_
 ·intro W hb h0 h1
  have LW:Yc5 W a (Yb8 true) s q:=L.go (Yab.of_below L.lies L.good hb) L.held L.cap rfl;have hs0:=World.block_lt_of_cell? W _ h0;have hs1:=World.block_lt_of_cell? W _ h1;simp only at hs0 hs1;refine (Ylw true LW t ht x hx _ _ Q ?_ (fun args w=>rfl)).mono ?_
  ·intro W' hb'
   have hgd:Yab W' W'.drew s s:=Yab.of_below (LW.lies.below hb') L.good (Below.refl _ W').drew;have hg0:Yab W W' s s:=Yab.of_below LW.lies L.good hb';refine Yzz w.heap.size (w.heap.size+1) a s.kb t W' _ ((hb'.cell (p:=⟨w.heap.size,0,none⟩) hs0).trans h0) ((hb'.cell (p:=⟨w.heap.size+1,0,none⟩) hs1).trans h1) ((hb'.cell (p:=⟨a,2,none⟩) LW.haw).trans LW.ca) ?_;refine (KC W'.drew (LW.lies.below hb'.drew)).mono ?_;rintro e w' ⟨k1,s',k2,k3⟩;have k4:=hgd.trans k3;have hsz:=hb'.size;exact ⟨k1,⟨s',k2,k4⟩,(World.cell?_of_block (k4.off w.heap.size (by omega) (fun tag ht=>by have:=L.lies.lt tag _ ht;omega))).trans ((hb'.cell (p:=⟨w.heap.size,0,none⟩) hs0).trans h0),(World.cell?_of_block (k4.off (w.heap.size+1) (by omega) (fun tag ht=>by have:=L.lies.lt tag _ ht;omega))).trans ((hb'.cell (p:=⟨w.heap.size+1,0,none⟩) hs1).trans h1),
    (World.cell?_of_block (k4.off a (by have:=LW.haw;omega) L.hao)).trans ((hb'.cell (p:=⟨a,2,none⟩) LW.haw).trans LW.ca)⟩
  ·rintro e w' ⟨k1,s',k2,k3⟩
   exact ⟨0,s',k1,⟨rfl,k2⟩,k3⟩
 ·rintro e w' ⟨c,s',h1,⟨rfl,h2⟩,h3⟩
  exact ⟨h1,s',h2,h3⟩
theorem Yz3 (L:Yc5 w a 224 s q) (t:Int) (ht:Yax t) (x:TxE) (hx:s.tx t=some x) (Q:Sv→Prop)
 (KC:∀ W,Yan W s→Calls prog 272 #[.pointer (some ⟨s.kb,0,none⟩),.int .i64 t] W fun e w'=>e=.returned (.tuple #[])∧∃ s',Q s'∧Yab W w' s s'):
 Calls prog 25 #[.pointer (some ⟨a,0,none⟩),.int .i64 t] w fun e w'=>e=.returned (.int .i64 0)∧∃ s',Q s'∧Yab w w' s s':=by
 refine (Yn7 L.lies a t (fun x s'=>x=0∧Q s') ?_).mono ?_
 ·intro W hb h0 h1
  have LW:Yc5 W a (Yb8 false) s q:=L.go (Yab.of_below L.lies L.good hb) L.held L.cap rfl;have hs0:=World.block_lt_of_cell? W _ h0;have hs1:=World.block_lt_of_cell? W _ h1;simp only at hs0 hs1;refine (Ylw false LW t ht x hx _ _ Q ?_ (fun args w=>rfl)).mono ?_
  ·intro W' hb'
   have hgd:Yab W' W'.drew s s:=Yab.of_below (LW.lies.below hb') L.good (Below.refl _ W').drew;have hg0:Yab W W' s s:=Yab.of_below LW.lies L.good hb';refine Yz0 w.heap.size (w.heap.size+1) a s.kb t W' _ ((hb'.cell (p:=⟨w.heap.size,0,none⟩) hs0).trans h0) ((hb'.cell (p:=⟨w.heap.size+1,0,none⟩) hs1).trans h1) ((hb'.cell (p:=⟨a,2,none⟩) LW.haw).trans LW.ca) ?_;refine (KC W'.drew (LW.lies.below hb'.drew)).mono ?_;rintro e w' ⟨k1,s',k2,k3⟩;have k4:=hgd.trans k3;have hsz:=hb'.size;exact ⟨k1,⟨s',k2,k4⟩,(World.cell?_of_block (k4.off w.heap.size (by omega) (fun tag ht=>by have:=L.lies.lt tag _ ht;omega))).trans ((hb'.cell (p:=⟨w.heap.size,0,none⟩) hs0).trans h0),(World.cell?_of_block (k4.off (w.heap.size+1) (by omega) (fun tag ht=>by have:=L.lies.lt tag _ ht;omega))).trans ((hb'.cell (p:=⟨w.heap.size+1,0,none⟩) hs1).trans h1),
    (World.cell?_of_block (k4.off a (by have:=LW.haw;omega) L.hao)).trans ((hb'.cell (p:=⟨a,2,none⟩) LW.haw).trans LW.ca)⟩
  ·rintro e w' ⟨k1,s',k2,k3⟩
   exact ⟨0,s',k1,⟨rfl,k2⟩,k3⟩
 ·rintro e w' ⟨c,s',h1,⟨rfl,h2⟩,h3⟩
  exact ⟨h1,s',h2,h3⟩
end Go.Proofs.YtihbngfbcnojcaaGreat
namespace Go.Proofs.YtihbngfbcnojcaaGreat
open Go.RowKit Go.Maps Go.Sort Go.Shelf Tryz
def Ysk:Go.Shelf.Ren:=⟨fun | 7=>115 | 10=>163 | n=>n,fun | 23=>128 | 26=>3 | 3=>158 | 28=>187 | 0=>0 | 27=>186 | 33=>49 | 4=>4 | n=>n,fun | n=>n⟩
theorem Ysl:Go.Proofs.SlLaysZI.n7 prog Ysk where
 mixed:=by kernel_rfl
 f7:=⟨Tryz.f115.name,by kernel_rfl,func115.trans (congrArg some (by kernel_rfl))⟩
 f10:=⟨Tryz.f163.name,by kernel_rfl,func163.trans (congrArg some (by kernel_rfl))⟩
 t0:=underlying0
 a0:=Tryz.isAgg0
 z0:=Tryz.sizeOf0
 v0:=Tryz.zeroValue0
 t4:=underlying4
 a4:=Tryz.isAgg4
 z4:=Tryz.sizeOf4
 v4:=Tryz.zeroValue4
 t23:=underlying128
 a23:=Tryz.isAgg128
 z23:=Tryz.sizeOf128
 v23:=Tryz.zeroValue128
 t26:=underlying3
 a26:=Tryz.isAgg3
 z26:=Tryz.sizeOf3
 v26:=Tryz.zeroValue3
 t27:=underlying186
 a27:=Tryz.isAgg186
 z27:=Tryz.sizeOf186
 v27:=Tryz.zeroValue186
 t28:=underlying187
 a28:=Tryz.isAgg187
 z28:=Tryz.sizeOf187
 v28:=Tryz.zeroValue187
 t33:=underlying49
 a33:=Tryz.isAgg49
 z33:=Tryz.sizeOf49
 v33:=Tryz.zeroValue49
def Ysm:Go.Shelf.Ren:=⟨fun | 6=>114 | 8=>161 | 9=>162 | 11=>209 | 13=>205 | 12=>210 | 23=>232 | 24=>233 | 14=>236 | 15=>237 | 16=>238 | 17=>239 | 18=>240 | 19=>241 | 20=>242 | 21=>243 | 22=>244 | 25=>251 | 26=>246 | 27=>247 | 28=>252 | 29=>253 | 30=>254 | 31=>256 | n=>n,fun | 26=>3 | 28=>187 | 24=>184 | 0=>0 | 3=>3 | 37=>213 | 48=>124 | 50=>53 | 4=>4 | 40=>316 | 39=>315 | 45=>249 | 5=>5 | 9=>9 | 51=>330 | 55=>333 | 57=>338 | 58=>339 | 33=>49 | n=>n,fun | n=>n⟩
theorem Yz4:Go.Proofs.SlLaysZI.n6 prog Ysm where
 mixed:=by kernel_rfl
 f6:=⟨Tryz.f114.name,by kernel_rfl,func114.trans (congrArg some (by kernel_rfl))⟩
 f8:=⟨Tryz.f161.name,by kernel_rfl,func161.trans (congrArg some (by kernel_rfl))⟩
 f11:=⟨Tryz.f209.name,by kernel_rfl,func209.trans (congrArg some (by kernel_rfl))⟩
 t0:=underlying0
 a0:=Tryz.isAgg0
 z0:=Tryz.sizeOf0
 v0:=Tryz.zeroValue0
 t24:=underlying184
 a24:=Tryz.isAgg184
 z24:=Tryz.sizeOf184
 v24:=Tryz.zeroValue184
 t26:=underlying3
 a26:=Tryz.isAgg3
 z26:=Tryz.sizeOf3
 v26:=Tryz.zeroValue3
 t28:=underlying187
 a28:=Tryz.isAgg187
 z28:=Tryz.sizeOf187
 v28:=Tryz.zeroValue187
 i26:=by kernel_rfl
def Yz5:Go.Shelf.Ren:=⟨fun | 5=>162 | 8=>205 | 7=>210 | 19=>232 | 20=>233 | 10=>236 | 11=>237 | 12=>238 | 13=>239 | 14=>240 | 15=>241 | 16=>242 | 17=>243 | 18=>244 | 30=>251 | 31=>246 | 32=>247 | 33=>252 | 34=>253 | 35=>254 | 40=>256 | n=>n,fun | 23=>184 | 25=>3 | 3=>3 | 32=>213 | 22=>184 | 0=>0 | 44=>124 | 46=>53 | 4=>4 | 36=>316 | 35=>315 | 41=>249 | 5=>5 | 9=>9 | 53=>330 | 57=>333 | 63=>338 | 64=>339 | n=>n,fun | n=>n⟩
theorem Ysn:Go.Proofs.SlLaysM.n5 prog Yz5 where
 mixed:=by kernel_rfl
 f5:=⟨Tryz.f162.name,by kernel_rfl,func162.trans (congrArg some (by kernel_rfl))⟩
 f7:=⟨Tryz.f210.name,by kernel_rfl,func210.trans (congrArg some (by kernel_rfl))⟩
 f8:=func205.trans (congrArg some (by kernel_rfl))
 f10:=⟨Tryz.f236.name,by kernel_rfl,func236.trans (congrArg some (by kernel_rfl))⟩
 f11:=⟨Tryz.f237.name,by kernel_rfl,func237.trans (congrArg some (by kernel_rfl))⟩
 f12:=⟨Tryz.f238.name,by kernel_rfl,func238.trans (congrArg some (by kernel_rfl))⟩
 f13:=⟨Tryz.f239.name,by kernel_rfl,func239.trans (congrArg some (by kernel_rfl))⟩
 f14:=⟨Tryz.f240.name,by kernel_rfl,func240.trans (congrArg some (by kernel_rfl))⟩
 f15:=⟨Tryz.f241.name,by kernel_rfl,func241.trans (congrArg some (by kernel_rfl))⟩
 f16:=⟨Tryz.f242.name,by kernel_rfl,func242.trans (congrArg some (by kernel_rfl))⟩
 f17:=⟨Tryz.f243.name,by kernel_rfl,func243.trans (congrArg some (by kernel_rfl))⟩
 f18:=⟨Tryz.f244.name,by kernel_rfl,func244.trans (congrArg some (by kernel_rfl))⟩
 f19:=func232.trans (congrArg some (by kernel_rfl))
 f20:=func233.trans (congrArg some (by kernel_rfl))
 f30:=⟨Tryz.f251.name,by kernel_rfl,func251.trans (congrArg some (by kernel_rfl))⟩
 f31:=func246.trans (congrArg some (by kernel_rfl))
 f32:=func247.trans (congrArg some (by kernel_rfl))
 f33:=⟨Tryz.f252.name,by kernel_rfl,func252.trans (congrArg some (by kernel_rfl))⟩
 f34:=⟨Tryz.f253.name,by kernel_rfl,func253.trans (congrArg some (by kernel_rfl))⟩
 f35:=⟨Tryz.f254.name,by kernel_rfl,func254.trans (congrArg some (by kernel_rfl))⟩
 f40:=⟨Tryz.f256.name,by kernel_rfl,func256.trans (congrArg some (by kernel_rfl))⟩
 t0:=underlying0
 a0:=Tryz.isAgg0
 z0:=Tryz.sizeOf0
 v0:=Tryz.zeroValue0
 t3:=underlying3
 a3:=Tryz.isAgg3
 z3:=Tryz.sizeOf3
 v3:=Tryz.zeroValue3
 t4:=underlying4
 a4:=Tryz.isAgg4
 z4:=Tryz.sizeOf4
 v4:=Tryz.zeroValue4
 t5:=underlying5
 a5:=Tryz.isAgg5
 z5:=Tryz.sizeOf5
 v5:=Tryz.zeroValue5
 t9:=underlying9
 a9:=Tryz.isAgg9
 z9:=Tryz.sizeOf9
 v9:=Tryz.zeroValue9
 t22:=underlying184
 a22:=Tryz.isAgg184
 z22:=Tryz.sizeOf184
 v22:=Tryz.zeroValue184
 t23:=underlying184
 a23:=Tryz.isAgg184
 z23:=Tryz.sizeOf184
 v23:=Tryz.zeroValue184
 t25:=underlying3
 a25:=Tryz.isAgg3
 z25:=Tryz.sizeOf3
 v25:=Tryz.zeroValue3
 t32:=underlying213
 a32:=Tryz.isAgg213
 z32:=Tryz.sizeOf213
 v32:=Tryz.zeroValue213
 t35:=underlying315
 a35:=Tryz.isAgg315
 z35:=Tryz.sizeOf315
 v35:=Tryz.zeroValue315
 t36:=underlying316
 a36:=Tryz.isAgg316
 z36:=Tryz.sizeOf316
 v36:=Tryz.zeroValue316
 t41:=underlying249
 a41:=Tryz.isAgg249
 z41:=Tryz.sizeOf249
 v41:=Tryz.zeroValue249
 t44:=underlying124
 a44:=Tryz.isAgg124
 z44:=Tryz.sizeOf124
 v44:=Tryz.zeroValue124
 t46:=underlying53
 a46:=Tryz.isAgg53
 z46:=Tryz.sizeOf53
 v46:=Tryz.zeroValue53
 t53:=underlying330
 a53:=Tryz.isAgg330
 z53:=Tryz.sizeOf330
 v53:=Tryz.zeroValue330
 t57:=underlying333
 a57:=Tryz.isAgg333
 z57:=Tryz.sizeOf333
 v57:=Tryz.zeroValue333
 t63:=underlying338
 a63:=Tryz.isAgg338
 z63:=Tryz.sizeOf338
 v63:=Tryz.zeroValue338
 t64:=underlying339
 a64:=Tryz.isAgg339
 z64:=Tryz.sizeOf339
 v64:=Tryz.zeroValue339
theorem Yz6 (m:Nat):AnyZI.SortsIn prog Ysm Fence.wide m:=
 ⟨fun blk off cap ss W hH hblk hsz=>callsIn_wide.2 (AnyM.slices_Sort_int Ysn blk off cap ss W hH hblk hsz),
  fun p cap W=>callsIn_wide.2 (AnyM.slices_Sort_int_none Ysn p cap W)⟩
theorem Yz7 (mb:Option Nat) (W:World):Calls prog 115 #[.map mb] W fun e w'=>e=.returned (.func (.func 163) #[] #[.pointer (some ⟨W.heap.size,0,none⟩)])∧w'=W.alloc (.cells #[.map mb] 128):=
 (callsIn_wide (n:=5)).1 (AnyZI.keys_in Ysl Fence.wide 5 trivial rfl mb W)
theorem Yz8 {H:Type} (b nn:Nat) (D0:DataW H) (R:Value→Option (DataW H×List MemPlace)) (w:World) (hown:w.ownsMap prog 3 R b nn D0) (hmax:Maps.size D0≤maxLen) (hbytes:Maps.size D0*8≤140737488355328):
 Calls prog 114 #[.func (.func 163) #[] #[.pointer (some ⟨w.heap.size,0,none⟩)]] (w.alloc (.cells #[.map (some b)] 128)) fun e w'=>∃ (v:Value) (ss:List Int),e=.returned v∧ss.Perm (intKeys D0) ∧
  w'.ownsRow (w.alloc (.cells #[.map (some b)] 128)).heap.size 3 1 v ss.length ((ss.mergeSort (fun x y=>decide (x≤y))).map encZ)∧(v=.slice none 0 0↔ss=[])∧Below (w.alloc (.cells #[.map (some b)] 128)).heap.size (w.alloc (.cells #[.map (some b)] 128)) w':=by
 have hbl:=hown.lt
 have hseq:SeqGives Fence.wide 2 prog 163 #[.pointer (some ⟨w.heap.size,0,none⟩)] encZ (fun ss=>ss.Perm (intKeys D0)) (Maps.size D0) (w.alloc (.cells #[.map (some b)] 128)):=
  AnyZI.keys_gives (ρ:=Ysk) { Ysl with } Fence.wide _ trivial rfl (by omega) w.heap.size b nn D0 _ (by simp) (by simp) (by
   obtain ⟨es,clock,hb,Ft,hs,hD⟩:=hown;exact ⟨es,clock,(Below.heap_alloc _ _ b hbl).trans hb,Ft,hs,hD⟩)
 exact (callsIn_wide (n:=5)).1 (AnyZI.sorted_in Yz4 Fence.wide 5 trivial trivial trivial trivial rfl (by omega) (Yz6 _) (enters_of func162 (by kernel_rfl) rfl) 163 #[.pointer (some ⟨w.heap.size,0,none⟩)] trivial (enters_of func163 (by kernel_rfl) rfl) _ _ hmax hbytes _ hseq)
end Go.Proofs.YtihbngfbcnojcaaGreat
namespace Go.Proofs.YtihbngfbcnojcaaGreat
open Go.RowKit Tryz
variable {M:DataW Value} {a count:Int} {b k n:Nat} {s s':Sv} {w w' wr:World} {ps:Yaf}
structure Ylx (M:DataW Value) (ks:List Int):Prop where
 rise:ks.Pairwise (· < ·)
 mem:∀ k,k∈ks↔Maps.has M (.int .i64 k)=true
 len:ks.length=Maps.size M
theorem Yz9 (hM:Yap w 3 b n M) {ss:List Int} (hp:ss.Perm (Go.intKeys M)):
 ∃ ks:List Int,Ylx M ks∧(ss.mergeSort (fun x y=>decide (x≤y))).map Go.encZ=ks.map (Value.int .i64):=by
 obtain ⟨es,hD,hpw,_⟩:=World.ownsMap.entries hM (Maps.int_keyed underlying3)
 obtain ⟨es',hD',hko⟩:=World.ownsMap.keysOf hM
 obtain rfl:es=es':=by rw [hD] at hD';simpa using hD'
 subst hD
 have hint:∀ p∈es,∃ x,p.1=.int .i64 x:=fun p hp=>by
  obtain ⟨v,hv⟩:=hko p hp;obtain ⟨x,_,hx,_⟩:=Maps.keyOf_int_inv underlying3 hv;exact ⟨x,hx⟩
 have hnd:(Go.intKeys (.map es)).Nodup:=by
  show (es.map fun p=>Go.intOf p.1).Nodup;refine List.pairwise_map.2 (hpw.imp_of_mem fun {p q} hp' hq' hne e=>hne ?_);obtain ⟨a,ha⟩:=hint p hp';obtain ⟨b,hb⟩:=hint q hq';rw [ha,hb] at e ⊢;exact congrArg _ e
 have hmem:∀ x:Int,x∈Go.intKeys (.map es)↔Maps.has (.map es) (.int .i64 x)=true:=fun x=>by
  rw [Maps.has_eq,List.any_eq_true];show x∈es.map (fun p=>Go.intOf p.1)↔_;rw [List.mem_map];constructor
  ·rintro ⟨p,hp',rfl⟩
   obtain ⟨a,ha⟩:=hint p hp';exact ⟨p,hp',by rw [ha];simp [Lit.sameKey,Go.intOf]⟩
  ·rintro ⟨p,hp',hs⟩
   obtain ⟨a,ha⟩:=hint p hp';rw [ha] at hs;exact ⟨p,hp',by rw [ha];simpa [Lit.sameKey,Go.intOf] using hs⟩
 have hlen:(Go.intKeys (.map es)).length=es.length:=by
  show (es.map fun p=>Go.intOf p.1).length=_;simp
 have hms:=(List.mergeSort_perm ss (fun x y=>decide (x≤y))).trans hp
 have hpws:(ss.mergeSort (fun x y=>decide (x≤y))).Pairwise (fun a b=>decide (a≤b)=true):=List.pairwise_mergeSort (fun a b c h1 h2=>by simp only [decide_eq_true_eq] at *;omega) (fun a b=>by simp only [Bool.or_eq_true,decide_eq_true_eq];omega) ss
 generalize ss.mergeSort (fun x y=>decide (x≤y))=st at hms hpws ⊢
 have hnd2:st.Nodup:=hms.nodup_iff.2 hnd
 refine ⟨st,⟨?_,fun k=>?_,?_⟩,?_⟩
 ·refine (hpws.and hnd2).imp (fun {a b} h=>?_)
  have h1:a≤b:=by simpa using h.1
  have:=h.2;omega
 ·rw [hms.mem_iff];exact hmem k
 ·rw [hms.length_eq,hlen];rfl
 ·rfl
theorem Y0a (hM:Yap w 3 b n M) (hn:n≤100000):
 Calls prog 114 #[.func (.func 163) #[] #[.pointer (some ⟨w.heap.size,0,none⟩)]] (w.alloc (.cells #[.map (some b)] 128)) fun e w'=>∃ v ks,e=.returned v∧Ylx M ks∧w'.ownsRow w.heap.size 3 1 v ks.length (ks.map (Value.int .i64))∧Below w.heap.size w w':=by
 have hsz:Maps.size M≤n:=World.ownsMap.size_le hM
 refine (Yz8 b n M Yb0 w hM (by unfold maxLen;omega) (by omega)).mono ?_
 rintro e w' ⟨v,ss,rfl,h1,h2,_,h3⟩
 obtain ⟨ks,k1,k2⟩:=Yz9 hM h1
 have hl:ks.length=ss.length:=by
  have:=congrArg List.length k2;simp at this;exact this.symm
 rw [k2,←hl] at h2
 exact ⟨v,ks,rfl,k1,Yfg h2 (by simp),((Below.refl _ w).alloc (Nat.le_refl _) _).trans (h3.mono (by simp))⟩
def Ybo (ps:Yaf) (j:Nat):ByteArray×ByteArray:=(ps[j]?).getD (ByteArray.empty,ByteArray.empty)
def Yfp (ps:Yaf):Yaf:=[Ybo ps 0,Ybo ps 1,Ybo ps 2,Ybo ps 3]
def Ybb (ps:Yaf) (i:Nat):List Value:=Ybz (Ybo ps (2*i)).1 (Ybo ps (2*i)).2 (Ybo ps (2*i+1)).1 (Ybo ps (2*i+1)).2
theorem Yie (h:∀ p∈ps,p.1.size≤8∧p.2.size≤12) (j:Nat):(Ybo ps j).1.size≤8∧(Ybo ps j).2.size≤12:=by
 unfold Ybo
 cases hj:ps[j]? with
 | none=>exact ⟨by simp,by simp⟩
 | some p=>exact h p (List.mem_of_getElem? hj)
theorem Yly (h:∀ p∈ps,p.1.size≤8∧p.2.size≤12) (i:Nat):(Ybb ps i).length=44:=
 Yka _ _ _ _ (Yie h _).1 (Yie h _).2 (Yie h _).1 (Yie h _).2
def Yd0 (ps:Yaf) (i:Nat):Nat→List Value
 | 0=>[]
 | j+1=>Yd0 ps i j ++ Ya2 (Ybo ps (2*i+j)).1 8 ++ Ya2 (Ybo ps (2*i+j)).2 12
theorem Ylz (ps:Yaf) (i:Nat):Yd0 ps i 2=Ybb ps i:=by
 simp only [Yd0,Ybb,Ybz,List.nil_append,Nat.add_zero,List.append_assoc]
theorem Yjc (ps:Yaf) (i:Nat):∀ u∈Ybb ps i,u.oneCell'=true:=fun u hu=>by
 simp only [Ybb,Ybz,List.mem_append] at hu;rcases hu with ((hu | hu) | hu) | hu <;> exact Ypq _ _ u hu
theorem Yso {ps:Yaf} (h:∀ p∈ps,p.1.size≤8∧p.2.size≤12) (i:Nat):∀ j,(Yd0 ps i j).length=22*j
 | 0=>rfl
 | j+1=>by
  have h1:=Yso h i j;have h2:=Yie h (2*i+j);simp only [Yd0,List.length_append,Yk4 _ _ h2.1,Yk4 _ _ h2.2,h1];omega
theorem Ysp (ps:Yaf) (j:Nat) (hj:j<4):(Yad (Yfp ps))[j*2]? = some (.string (Ybo ps j).1)∧(Yad (Yfp ps))[j*2+1]? = some (.string (Ybo ps j).2):=by
 have h:j=0∨j=1∨j=2∨j=3:=by omega
 rcases h with rfl | rfl | rfl | rfl <;> exact ⟨rfl,rfl⟩
theorem Y0b {P:Program} (w:World) (dT sT ty elem:TypeId) (size b o dLen dCap:Nat) (hu:P.underlying dT=some (.slice elem)) (hs:(P.info? elem).map (·.size)=some size):
 (Builtin.copy_ #[dT,sT] ty #[.slice (some ⟨b,o,none⟩) dLen dCap,.slice none 0 0]).run P w=.ok (goInt 0) w:=by
 have hst:=run_storeCells_cells (P:=P) b o [] 0 w (by simp) (by simp) (by simp)
 cases hq:P.info? elem with
 | none=>simp [hq] at hs
 | some i=>
  simp [Builtin.copy_,run_underlying hu,Builtin.lenOf,Builtin.firstCells,sizeOf,typeInfo,hq];rw [hst];rfl
theorem Yn8:∀ (S:List Value) (w:World) (b o:Nat),(w.setCells b o S).heap.size=w.heap.size
 | [],_,_,_=>rfl
 | u :: r,w,b,o=>by
  show ((w.setCell ⟨b,o,none⟩ u).setCells b (o+1) r).heap.size=_;rw [Yn8 r];simp
theorem Y0c:∀ (ps:Yaf),ps.length≤4→Ych (#[.string ByteArray.empty,.string ByteArray.empty,.string ByteArray.empty,.string ByteArray.empty,.string ByteArray.empty,.string ByteArray.empty,.string ByteArray.empty,.string ByteArray.empty]:Array Value) 0 (Yad ps)=(Yad (Yfp ps)).toArray
 | [],_=>by simp [Ych,Yad,Yfp,Ybo]
 | [_],_=>by simp [Ych,Yad,Yfp,Ybo]
 | [_,_],_=>by simp [Ych,Yad,Yfp,Ybo]
 | [_,_,_],_=>by simp [Ych,Yad,Yfp,Ybo]
 | [_,_,_,_],_=>by simp [Ych,Yad,Yfp,Ybo]
 | _ :: _ :: _ :: _ :: _ :: _,h=>by simp at h
theorem Y0d {base:Nat} {v:Value} (hown:w.ownsRow base 43 2 v ps.length (Yad ps)) (hl:ps.length≤4) (g:Nat) (hg:w.heap[g]? = some (.cells #[.string ByteArray.empty,.string ByteArray.empty,.string ByteArray.empty,.string ByteArray.empty,.string ByteArray.empty,.string ByteArray.empty,.string ByteArray.empty,.string ByteArray.empty] 300 (0,0))) (ty:TypeId):
 ∃ w' x,(Builtin.copy_ #[34,34] ty #[.slice (some ⟨g,0,none⟩) 4 4,v]).run prog w=.ok x w'∧w'.heap[g]? = some (.cells (Yad (Yfp ps)).toArray 300 (0,0))∧(∀ k,k≠g→w'.heap[k]? = w.heap[k]?)∧w'.heap.size=w.heap.size∧Below g w w':=by
 have hszM:(prog.info? 43).map (·.size)=some 2:=by kernel_rfl
 rcases hown.2 with ⟨rfl,h0⟩ | ⟨gb,cap,cur,rfl,_,hgb,_,_,_,hcur⟩
 ·have hps:ps=[]:=List.length_eq_zero_iff.1 h0
  subst hps;exact ⟨w,_,Y0b w _ _ ty 43 2 g 0 4 4 underlying34 hszM,hg,fun _ _=>rfl,rfl,Below.refl _ _⟩
 ·have hpl:=Yds ps
  refine ⟨w.setCells g 0 (Yad ps),_,Yj8 w _ _ ty 43 2 g 0 4 4 ⟨gb,0,none⟩ ps.length cap ps.length (Yad ps) underlying34 hszM (by simp only [Nat.min_def];split <;> omega) hpl (fun j u hj=>?_) (fun j hj=>?_) (fun j hj=>Yah _ hg) (Yj5 _),?_,fun k hk=>Ygn _ _ _ _ _ hk,?_,Yiu _ _ _ _ (Nat.le_refl _)⟩
  ·rw [Ydf]
   refine Yaa hgb ?_;rw [←hcur,List.getElem?_take] at hj;split at hj
   ·simpa using hj
   ·cases hj
  ·rw [Nat.zero_add]
   have hj':j<8:=by omega
   have:j=0∨j=1∨j=2∨j=3∨j=4∨j=5∨j=6∨j=7:=by omega
   rcases this with rfl | rfl | rfl | rfl | rfl | rfl | rfl | rfl <;> (rw [Yaa hg rfl];rfl)
  ·rw [Yhz _ _ _ _ _ _ hg,Y0c ps hl]
  ·exact Yn8 _ _ _ _
def Ygb (a b:Int) (ps:Yaf) (k:Nat):List Value:=Yci (Yam a b (Ybb ps 0)) (Yam a b (Ybb ps 1)) k
structure Pk (w wr:World) (a b:Int) (ps:Yaf) (k:Nat):Prop where
 g0:wr.heap[w.heap.size]? = some (.cells #[.int .u32 a,.int .u32 b] 168 (0,0))
 g1:wr.heap[w.heap.size+1]? = some (.cells (Yci [] [] 0).toArray 256 (0,0))
 g2:wr.heap[w.heap.size+1+1]? = some (.cells (Yad (Yfp ps)).toArray 300 (0,0))
 g3:wr.heap[w.heap.size+3]? = some (.cells (Ygb a b ps k).toArray 256 (0,0))
 size:w.heap.size+4≤wr.heap.size
 below:Below w.heap.size w wr
theorem Pk.next {W:World} {b:Int} (h:Pk w wr a b ps k) (hb:Below (w.heap.size+4) wr W):Pk w W a b ps k:=
 ⟨(hb.block _ (by omega)).trans h.g0,(hb.block _ (by omega)).trans h.g1,(hb.block _ (by omega)).trans h.g2,(hb.block _ (by omega)).trans h.g3,by have:=hb.size;have:=h.size;omega,h.below.trans (hb.mono (by omega))⟩
theorem Pk.slot0 {b:Int} (h:Pk w wr a b ps k) (j:Nat) (hj:j<2):wr.cell? ⟨w.heap.size+1+1,j*2,none⟩=some (.string (Ybo ps (2*0+j)).1)∧wr.cell? ⟨w.heap.size+1+1,j*2+1,none⟩=some (.string (Ybo ps (2*0+j)).2):=by
 obtain ⟨h1,h2⟩:=Ysp ps j (by omega);rw [show 2*0+j=j by omega];exact ⟨Yaa h.g2 (by simpa using h1),Yaa h.g2 (by simpa using h2)⟩
theorem Pk.slot1 {b:Int} (h:Pk w wr a b ps k) (j:Nat) (hj:j<2):wr.cell? ⟨w.heap.size+1+1,4+j*2,none⟩=some (.string (Ybo ps (2*1+j)).1)∧wr.cell? ⟨w.heap.size+1+1,4+j*2+1,none⟩=some (.string (Ybo ps (2*1+j)).2):=by
 obtain ⟨h1,h2⟩:=Ysp ps (2*1+j) (by omega);rw [show (2*1+j)*2=4+j*2 by omega] at h1 h2;exact ⟨Yaa h.g2 (by simpa using h1),Yaa h.g2 (by simpa using h2)⟩
theorem Y0e (a b:Int) (base:Nat) (v:Value) (ps:Yaf) (w:World) (ha:0≤a) (ha':a<4294967296) (hb:0≤b) (hb':b<4294967296) (hown:w.ownsRow base 43 2 v ps.length (Yad ps)) (hl:ps.length≤4) (hsz:∀ p∈ps,p.1.size≤8∧p.2.size≤12):
 Calls prog 165 #[.agg #[.int .u32 a,.int .u32 b],v] w fun r w'=>r=.returned (.agg (Yam a b (Ybb ps 0) ++ Yam a b (Ybb ps 1)).toArray)∧Below w.heap.size w w':=by
 have HSL:Hid (∀ i,(Yam a b (Ybb ps i)).length=64∧∀ u∈Yam a b (Ybb ps i),u.oneCell'=true):=fun i=>⟨Yeh _ _ _ (by rw [Yly hsz];omega),Yf1 _ _ _ (Yjc ps i)⟩
 have HTL:Hid (∀ i j,(Yd0 ps i j).length=22*j):=fun i j=>Yso hsz i j
 have HFT:Hid (∀ j,(Ybo ps j).1.size≤8∧(Ybo ps j).2.size≤12):=Yie hsz
 obtain ⟨W3,hW3⟩:∃ W3,W3=((w.alloc (.cells #[.int .u32 a,.int .u32 b] 168)).alloc (.cells Tryz.zeroCells256 256)).alloc (.cells #[.string ⟨#[]⟩,.string ⟨#[]⟩,.string ⟨#[]⟩,.string ⟨#[]⟩,.string ⟨#[]⟩,.string ⟨#[]⟩,.string ⟨#[]⟩,.string ⟨#[]⟩] 300):=⟨_,rfl⟩
 have hz3:W3.heap.size=w.heap.size+3:=by rw [hW3];simp
 have hB3:Below w.heap.size w W3:=by rw [hW3];exact (((Below.refl _ w).alloc (Nat.le_refl _) _).alloc (by simp) _).alloc (by simp;omega) _
 have g0:W3.heap[w.heap.size]? = some (.cells #[.int .u32 a,.int .u32 b] 168 (0,0)):=by
  rw [hW3,Below.heap_alloc _ _ _ (by simp;omega),Below.heap_alloc _ _ _ (by simp)];exact heap_alloc_new _ _
 have g1:W3.heap[w.heap.size+1]? = some (.cells (Yci [] [] 0).toArray 256 (0,0)):=by
  rw [hW3,Below.heap_alloc _ _ _ (by simp),←Ynl];exact Yi1 w _ _
 have g2:W3.heap[w.heap.size+1+1]? = some (.cells #[.string ByteArray.empty,.string ByteArray.empty,.string ByteArray.empty,.string ByteArray.empty,.string ByteArray.empty,.string ByteArray.empty,.string ByteArray.empty,.string ByteArray.empty] 300 (0,0)):=by
  have e9:=heap_alloc_new ((w.alloc (.cells #[.int .u32 a,.int .u32 b] 168)).alloc (.cells Tryz.zeroCells256 256)) (.cells #[.string ⟨#[]⟩,.string ⟨#[]⟩,.string ⟨#[]⟩,.string ⟨#[]⟩,.string ⟨#[]⟩,.string ⟨#[]⟩,.string ⟨#[]⟩,.string ⟨#[]⟩] 300);have e8:((w.alloc (.cells #[.int .u32 a,.int .u32 b] 168)).alloc (.cells Tryz.zeroCells256 256)).heap.size=w.heap.size+1+1:=by simp
  rw [e8] at e9;rw [hW3];exact e9
 have hown3:=Ybe hown hB3 (fun g hg=>(hown.lt g hg).2)
 obtain ⟨W4,xc,hcp,c2,ck,cz,cb⟩:=Y0d hown3 hl (w.heap.size+1+1) g2 3
 have HW4:Hid (W4.heap[w.heap.size]? = some (.cells #[.int .u32 a,.int .u32 b] 168 (0,0))∧W4.heap[w.heap.size+1]? = some (.cells (Yci [] [] 0).toArray 256 (0,0))∧W4.heap[w.heap.size+1+1]? = some (.cells (Yad (Yfp ps)).toArray 300 (0,0))∧W4.heap.size=w.heap.size+3∧Below w.heap.size w W4):=
  ⟨(ck _ (by omega)).trans g0,(ck _ (by omega)).trans g1,c2,by rw [cz,hz3],hB3.trans (cb.mono (by omega))⟩
 clear hown hown3 g0 g1 g2 c2 ck cz cb hB3 hz3 hl hsz
 go_enter func165,ntmps165
 subst hW3
 go_wp2_with fail
 obtain ⟨W5,hW5⟩:∃ W5,W5=W4.alloc (.cells Tryz.zeroCells256 256):=⟨_,rfl⟩
 obtain ⟨i0,i1,i2,i3,i4⟩:=HW4.out
 have HI:Hid (Pk w W5 a b ps 0):=by
  have hb5:Below W4.heap.size W4 W5:=by rw [hW5];exact (Below.refl _ W4).alloc (Nat.le_refl _) _
  refine ⟨(hb5.block _ (by omega)).trans i0,(hb5.block _ (by omega)).trans i1,(hb5.block _ (by omega)).trans i2,?_,by rw [hW5];simp;omega,i4.trans (hb5.mono i4.size)⟩;rw [hW5,←i3];show _=some (Obj.cells (Yci [] [] 0).toArray _ (0,0));rw [←Ynl];exact heap_alloc_new W4 _
 rw [i3,←hW5]
 clear i0 i1 i2 i3 i4 HW4 hW5 hcp
 go_loopw [14] (fun i wr=>∃ k:Nat,k≤2∧i=.int .i64 k∧Pk w wr a b ps k) (fun i _=>2 - (intOf i).toNat)
 case atStart=>exact ⟨0,by omega,rfl,HI.out⟩
 case round=>
  obtain ⟨k,hk,rfl,hrel⟩:=hrel;have HR:=Yh hrel;clear hrel HI;obtain ⟨wa,rfl⟩:∃ wa,wa=wr:=⟨_,rfl⟩;by_cases hlt:k<2
  ·have hk01:k=0∨k=1:=by omega
   have HSL2:=HSL.out k;have HLT:=Yh hlt;have HNX:Hid (∀ W,Pk w W a b ps k→∀ W',W'=W.setCells (w.heap.size+3) (k*64) (Yam a b (Ybb ps k))→Pk w W' a b ps (k+1)):=fun W hW W' hW'=>by
    subst hW';have h0:=HSL.out 0;have h1:=HSL.out 1;refine ⟨(Ygn _ _ _ _ _ (by omega)).trans hW.g0,(Ygn _ _ _ _ _ (by omega)).trans hW.g1,(Ygn _ _ _ _ _ (by omega)).trans hW.g2,?_,by rw [Yn8];exact hW.size,hW.below.trans (Yiu _ _ _ _ (by omega))⟩;rw [Yhz _ _ _ _ _ _ hW.g3];congr 2;rcases hk01 with rfl | rfl
    ·have:=Ylj [] (List.replicate 64 (Value.int .u8 0)) (List.replicate 64 (Value.int .u8 0)) (Yam a b (Ybb ps 0)) (by simp [h0.1])
     simp only [Ygb,Yci,List.nil_append,List.length_nil,Nat.zero_mul] at this ⊢;rw [this]
    ·have:=Ylj (Yam a b (Ybb ps 0)) (List.replicate 64 (Value.int .u8 0)) [] (Yam a b (Ybb ps 1)) (by simp [h1.1])
     simp only [Ygb,Yci,List.append_nil,h0.1,Nat.one_mul] at this ⊢;rw [this]
   have HS3:Hid (∀ W,Pk w W a b ps k→W.there (w.heap.size+3) (k*64) 64):=fun W hW=>Yis hW.g3 _ _ (by
    have h0:=(HSL.out 0).1;have h1:=(HSL.out 1).1;rw [List.size_toArray];rcases hk01 with rfl | rfl
    ·simp [Ygb,Yci]
    ·simp [Ygb,Yci,h0])
   rcases hk01 with rfl | rfl
   ·rw [show ((0:Nat):Int)=0 from rfl]
    go_wp2;go_loopw [8,24] (fun u i wr=>∃ j:Nat,j≤2∧i=.int .i64 j∧wr.ownsRow (w.heap.size+4) 5 1 u (22*j) (Yd0 ps 0 j)∧Pk w wr a b ps 0) (fun _ i _=>2 - (intOf i).toNat)
    case atStart=>exact ⟨0,by omega,rfl,World.ownsRow_nil _ _ _ _,HR.out⟩
    case round=>
     obtain ⟨j,hj,rfl,hrow,hpk⟩:=hrel;have HPK:=Yh hpk;have HROW:=Yh hrow;by_cases hlt2:j<2
     ·have hlt':(j:Int)<2:=by omega
      obtain ⟨z0,z1⟩:=hpk.slot0 j hlt2;have hf:=HFT.out (2*0+j);have HBA:Hid (∀ o,Below (w.heap.size+4) wr (wr.alloc o)):=fun o=>(Below.refl _ _).alloc hpk.size _
      have HTX:Hid (Yd0 ps 0 (j+1)=Yd0 ps 0 j ++ Ya2 (Ybo ps (2*0+j)).1 8 ++ Ya2 (Ybo ps (2*0+j)).2 12):=rfl;generalize Ybo ps (2*0+j)=sl at z0 z1 hf HTX;obtain ⟨sk,sv⟩:=sl;simp only at z0 z1 hf HTX;have tk1:True:=trivial;have hsz0:=hpk.size;clear hrow hpk;go_wp2_with (first
       | (have _t:=tk1;go_at_call 211;go_must (
        clear tk1;refine (Yil (w.heap.size+4) _ (22*j) (Yd0 ps 0 j) sk 8 _ (HROW.out.alloc _) (by simp;omega) (by omega) hf.1 (by omega)).mono ?_;rintro e wb ⟨vb,rfl,hrb,hgb⟩;have HBB:Hid (Below (w.heap.size+4) wr wb):=(HBA.out _).trans (hgb.below (HROW.out.alloc _) (Nat.le_refl _) (by simp;omega));have hq0:wb.heap[wr.heap.size]? = some (.cells #[.string sk,.string sv] 43 (0,0)):=(hgb.block (by simp) (fun e=>by have:=HROW.out.lt _ e;omega)).trans (heap_alloc_new wr _);have y1:=Yaa (j:=1) hq0 rfl;have HRB:=Yh hrb;clear hrb hgb hq0))
       | (go_at_call 211;go_must (
        refine (Yil (w.heap.size+4) _ (22*j+(1+8)) (Yd0 ps 0 j ++ Ya2 sk 8) sv 12 _ HRB.out (by have:=HBB.out.size;omega) (by omega) hf.2 (by omega)).mono ?_;rintro e wc ⟨vc,rfl,hrc,hgc⟩;have HBC:Hid (Below (w.heap.size+4) wr wc):=HBB.out.trans (hgc.below HRB.out (Nat.le_refl _) (by have:=HBB.out.size;omega));have HRC:=Yh hrc;clear hrc hgc)))
      refine ⟨⟨j+1,by omega,by simp,?_,HPK.out.next HBC.out⟩,by simp [intOf];omega⟩;rw [HTX.out,show 22*(j+1)=22*j+(1+8)+(1+12) by omega];exact HRC.out
     ·obtain rfl:j=2:=by omega
      rw [Ylz] at hrow;obtain ⟨g7,cap7,cur7,rfl,hg7b,hg7h,hc7,hcur⟩:=Yhw hrow (by omega);have y0:=Yaa (j:=0) hpk.g0 rfl;have y1:=Yaa (j:=1) hpk.g0 rfl;have HST:Hid (∀ W,Pk w W a b ps 0→Sem.run prog (storeCells ⟨w.heap.size+3,0,none⟩ (Yam a b (Ybb ps 0))) W=.ok () (W.setCells (w.heap.size+3) (0*64) (Yam a b (Ybb ps 0)))):=fun W hW=>by
       have h9:=run_storeCells_cells (P:=prog) (w.heap.size+3) (0*64) (Yam a b (Ybb ps 0)) 0 W (fun j hj=>?_) (fun j hj=>Yah _ hW.g3) HSL2.2
       ·exact h9
       ·have hz:=(HSL.out 0).1
        rw [HSL2.1] at hj;have hpl:(Ygb a b ps 0).toArray.size=128:=by rw [List.size_toArray];simp [Ygb,Yci]
        rw [Yaa hW.g3 (Array.getElem?_eq_getElem (by rw [hpl];omega))];rfl
      have hL44:(Ybb ps 0).length=22*2:=by rw [←Ylz];exact HTL.out 0 2
      clear hrow hpk hg7b hc7;have HG7:=Yh hg7h;have HCU:=Yh hcur;have HH1:Hid (∀ u∈Ybb ps 0,u.oneCell'=true):=Yjc ps 0;clear hg7h hcur;go_wp2_with (first
       | (go_at_call 167;go_must (
        refine (Yk5 a b _ ha ha' hb hb' g7 (22*2) cap7 (Ybb ps 0) (Yaj HG7.out) hL44 (by omega) (fun j u hu=>Yaa HG7.out (HCU.out j u hu)) HH1.out).mono ?_;rintro r w8 ⟨S,rfl,HSS,HSLL,HS1',hb8⟩;have hpk8:Pk w w8 a b ps 0:=HPK.out.next (hb8.mono HPK.out.size);have hrun:=HST.out w8 hpk8;rw [←HSS.out] at hrun;have HP8:=Yh hpk8;have hSL:S.length=64:=HSLL.out;clear hb8 hpk8)))
      refine ⟨⟨0+1,by omega,by simp,HNX.out w8 HP8.out _ (by rw [HSS.out])⟩,by simp [intOf]⟩
   ·rw [show ((1:Nat):Int)=1 from rfl]
    go_wp2;go_loopw [8,24] (fun u i wr=>∃ j:Nat,j≤2∧i=.int .i64 j∧wr.ownsRow (w.heap.size+4) 5 1 u (22*j) (Yd0 ps 1 j)∧Pk w wr a b ps 1) (fun _ i _=>2 - (intOf i).toNat)
    case atStart=>exact ⟨0,by omega,rfl,World.ownsRow_nil _ _ _ _,HR.out⟩
    case round=>
     obtain ⟨j,hj,rfl,hrow,hpk⟩:=hrel;have HPK:=Yh hpk;have HROW:=Yh hrow;by_cases hlt2:j<2
     ·have hlt':(j:Int)<2:=by omega
      obtain ⟨z0,z1⟩:=hpk.slot1 j hlt2;have hf:=HFT.out (2*1+j);have HBA:Hid (∀ o,Below (w.heap.size+4) wr (wr.alloc o)):=fun o=>(Below.refl _ _).alloc hpk.size _
      have HTX:Hid (Yd0 ps 1 (j+1)=Yd0 ps 1 j ++ Ya2 (Ybo ps (2*1+j)).1 8 ++ Ya2 (Ybo ps (2*1+j)).2 12):=rfl;generalize Ybo ps (2*1+j)=sl at z0 z1 hf HTX;obtain ⟨sk,sv⟩:=sl;simp only at z0 z1 hf HTX;have tk1:True:=trivial;have hsz0:=hpk.size;clear hrow hpk;go_wp2_with (first
       | (have _t:=tk1;go_at_call 211;go_must (
        clear tk1;refine (Yil (w.heap.size+4) _ (22*j) (Yd0 ps 1 j) sk 8 _ (HROW.out.alloc _) (by simp;omega) (by omega) hf.1 (by omega)).mono ?_;rintro e wb ⟨vb,rfl,hrb,hgb⟩;have HBB:Hid (Below (w.heap.size+4) wr wb):=(HBA.out _).trans (hgb.below (HROW.out.alloc _) (Nat.le_refl _) (by simp;omega));have hq0:wb.heap[wr.heap.size]? = some (.cells #[.string sk,.string sv] 43 (0,0)):=(hgb.block (by simp) (fun e=>by have:=HROW.out.lt _ e;omega)).trans (heap_alloc_new wr _);have y1:=Yaa (j:=1) hq0 rfl;have HRB:=Yh hrb;clear hrb hgb hq0))
       | (go_at_call 211;go_must (
        refine (Yil (w.heap.size+4) _ (22*j+(1+8)) (Yd0 ps 1 j ++ Ya2 sk 8) sv 12 _ HRB.out (by have:=HBB.out.size;omega) (by omega) hf.2 (by omega)).mono ?_;rintro e wc ⟨vc,rfl,hrc,hgc⟩;have HBC:Hid (Below (w.heap.size+4) wr wc):=HBB.out.trans (hgc.below HRB.out (Nat.le_refl _) (by have:=HBB.out.size;omega));have HRC:=Yh hrc;clear hrc hgc)))
      refine ⟨⟨j+1,by omega,by simp,?_,HPK.out.next HBC.out⟩,by simp [intOf];omega⟩;rw [HTX.out,show 22*(j+1)=22*j+(1+8)+(1+12) by omega];exact HRC.out
     ·obtain rfl:j=2:=by omega
      rw [Ylz] at hrow;obtain ⟨g7,cap7,cur7,rfl,hg7b,hg7h,hc7,hcur⟩:=Yhw hrow (by omega);have y0:=Yaa (j:=0) hpk.g0 rfl;have y1:=Yaa (j:=1) hpk.g0 rfl;have HST:Hid (∀ W,Pk w W a b ps 1→Sem.run prog (storeCells ⟨w.heap.size+3,64,none⟩ (Yam a b (Ybb ps 1))) W=.ok () (W.setCells (w.heap.size+3) (1*64) (Yam a b (Ybb ps 1)))):=fun W hW=>by
       have h9:=run_storeCells_cells (P:=prog) (w.heap.size+3) (1*64) (Yam a b (Ybb ps 1)) 0 W (fun j hj=>?_) (fun j hj=>Yah _ hW.g3) HSL2.2
       ·exact h9
       ·have hz:=(HSL.out 0).1
        rw [HSL2.1] at hj;have hpl:(Ygb a b ps 1).toArray.size=128:=by rw [List.size_toArray];simp [Ygb,Yci,hz]
        rw [Yaa hW.g3 (Array.getElem?_eq_getElem (by rw [hpl];omega))];rfl
      have hL44:(Ybb ps 1).length=22*2:=by rw [←Ylz];exact HTL.out 1 2
      clear hrow hpk hg7b hc7;have HG7:=Yh hg7h;have HCU:=Yh hcur;have HH1:Hid (∀ u∈Ybb ps 1,u.oneCell'=true):=Yjc ps 1;clear hg7h hcur;go_wp2_with (first
       | (go_at_call 167;go_must (
        refine (Yk5 a b _ ha ha' hb hb' g7 (22*2) cap7 (Ybb ps 1) (Yaj HG7.out) hL44 (by omega) (fun j u hu=>Yaa HG7.out (HCU.out j u hu)) HH1.out).mono ?_;rintro r w8 ⟨S,rfl,HSS,HSLL,HS1',hb8⟩;have hpk8:Pk w w8 a b ps 1:=HPK.out.next (hb8.mono HPK.out.size);have hrun:=HST.out w8 hpk8;rw [←HSS.out] at hrun;have HP8:=Yh hpk8;have hSL:S.length=64:=HSLL.out;clear hb8 hpk8)))
      refine ⟨⟨1+1,by omega,by simp,HNX.out w8 HP8.out _ (by rw [HSS.out])⟩,by simp [intOf]⟩
  ·obtain rfl:k=2:=by omega
   obtain ⟨R,hR⟩:∃ R,Yam a b (Ybb ps 0) ++ Yam a b (Ybb ps 1)=R:=⟨_,rfl⟩;have hR2:Ygb a b ps 2=R:=hR;have hRl:R.length=128:=by rw [←hR,List.length_append,(HSL.out 0).1,(HSL.out 1).1]
   have hR1:∀ u∈R,u.oneCell'=true:=by
    rw [←hR];exact fun u hu=>(List.mem_append.1 hu).elim (fun h=>(HSL.out 0).2 u h) (fun h=>(HSL.out 1).2 u h)
   have hg3:=HR.out.g3;rw [hR2] at hg3;have HRR:=Yh hR;have hrg:wa.rangeAt (w.heap.size+3) 0 R:=fun j u hu=>by rw [Nat.zero_add];exact Yaa hg3 (by simpa using hu)
   have hi:(prog.info? 256).map (·.size)=some R.length:=by rw [hRl];kernel_rfl
   have HC0:Hid (wa.heap[w.heap.size+1]? = some (.cells (Yci [] [] 0).toArray 256 (0,0))):=HR.out.g1;have HFIN:Hid ((wa.setRow (w.heap.size+1) R.toArray).heap[w.heap.size+1]? = some (.cells R.toArray 256 (0,0))):=setRow_heap wa (w.heap.size+1) _ R.toArray _ (0,0) HR.out.g1;have HBF:Hid (Below w.heap.size w (wa.setRow (w.heap.size+1) R.toArray)):=HR.out.below.trans ((Ylk wa _ _).mono (by omega));clear hg3 hR hR2;go_wp2_with (first
    | (refine wpList_load_mid rfl 256 (.tmp 6) rfl (w.heap.size+3) 0 (by rfl) R _ hrg underlying256 rfl hi ?_)
    | (
     refine wpList_store_row rfl 256 (.tmp 4) (.tmp 43) rfl (w.heap.size+1) R.toArray (by rfl) (by rfl) 256 _ HC0.out (by simpa using hi) ?ho (all_oneCell_toArray hR1) ?_
     case ho=>simp [Yci,hRl]))
   exact bodyPost_ret (results_cell_row Tryz.results165 _ _ (w.heap.size+1) 256 R.toArray (0,0) _ rfl HFIN.out underlying256 rfl (by simpa using hi)) rfl ⟨by rw [HRR.out],HBF.out⟩
structure Ybg (w w':World) (s s':Sv):Prop where
 lies:Yan w' s'
 grown:Ydb s s' w.heap.size
 off:∀ q,q<w.heap.size→(∀ tag,s.blk tag≠some q)→w'.heap[q]? = w.heap[q]?
 below:Below 0 w w'
theorem Ybg.refl (h:Yan w s):Ybg w w s s:=⟨h,Ydb.refl _ _,fun _ _ _=>rfl,Below.refl _ _⟩
theorem Ybg.trans {w1 w2:World} {s1 s2:Sv} (h:Ybg w w1 s s1) (k:Ybg w1 w2 s1 s2):Ybg w w2 s s2:=by
 have hz:=h.below.size;refine ⟨k.lies,h.grown.trans k.grown hz,fun q hq hn=>?_,h.below.trans k.below⟩;refine (k.off q (by omega) (fun tag ht=>?_)).trans (h.off q hq hn);rcases h.grown tag q ht with h1 | h1
 ·exact hn tag h1
 ·omega
theorem Ybg.of_below (h:Yan w s) (hb:Below w.heap.size w w'):Ybg w w' s s:=⟨h.below hb,Ydb.refl _ _,fun q hq _=>hb.block q hq,hb.mono (Nat.zero_le _)⟩
theorem Ybg.goes (h:Ybg w w' s s') (g:Yar s'):Yab w w' s s':=⟨h.lies,g,h.grown,h.off,h.below⟩
theorem Ybg.drew (h:Ybg w w' s s'):Ybg w w'.drew s s':=⟨h.lies.frame (fun _ _ _=>rfl) (Nat.le_refl _),h.grown,h.off,h.below.drew⟩
def Yew (s:Sv):Sv:={ s with count:=s.count+1 }
def Ygu (s:Sv) (A:Nat) (S:List Value) (v':Value):Sv:={ s with D:=s.D.setIfInBounds 27776 v',ws:=s.ws ++ [(A,S)],v:=v' }
theorem Y0f (h:Yan w s) (hc:0≤s.count∧s.count<4294967295):
 Calls prog 124 #[.pointer (some ⟨s.vb,0,none⟩)] w fun e w'=>e=.returned (.agg #[.int .u32 s.start,.int .u32 (s.count+1)])∧Ybg w w' s (Yew s):=by
 refine (Ynj s.vb s.db s.start s.count s.turn w hc.1 hc.2 (h.comp .vol)).mono ?_
 rintro e w' ⟨rfl,h1,h2,h3⟩
 refine ⟨rfl,h.step (fun tag=>tag=.vol) ?_ ?_ ?_ ?_ ?_ h3.size,fun tag k hk=>.inl hk,fun q hq hn=>h2 q hq (fun e=>hn .vol (by rw [e];rfl)),h3⟩
 ·intro tag ht
  refine ⟨rfl,fun W hW=>?_⟩
  cases tag using Tag.elim with
  | vol=>exact absurd rfl ht
  | _=>exact hW
 ·intro tag k ht hk
  exact h2 k (h.lt tag k hk) (fun e=>ht (h.apart tag .vol k hk (by rw [e];rfl)))
 ·rintro tag rfl
  exact h1
 ·intro tag k _ hk
  exact .inl hk
 ·intro a b k ha hb _ _
  rw [ha,hb]
theorem Ysq (h:Yan w s) (hdv:s.D[27776]? = some s.v) (hf:s.D[27777]? = some (.int .i64 0)) (hn:s.ws.length≤1000) (A:Nat) (S:List Value) (hS:S.length=64) (h1:∀ u∈S,u.oneCell'=true):
 Calls prog 119 #[.pointer (some ⟨s.db,0,none⟩),.int .i64 (A:Int),.agg S.toArray] w fun e w'=>e=.returned (.tuple #[])∧∃ v',Ybg w w' s (Ygu s A S v'):=by
 have hown:w.ownsRow (s.db+1) 143 65 s.v s.ws.length (Ycs s.ws):=h.comp .uns
 have hdw:s.db<w.heap.size:=h.lt .disk _ rfl
 refine (Ym3 s.db (s.db+1) s.ws.length s.v (Ycs s.ws) (A:Int) S s.D w hS h1 (by omega) (by omega) hown (by omega) (h.comp .disk) hdv hf).mono ?_
 rintro e w' ⟨rfl,g,cap,k1,k2,k3,k4,k5⟩
 obtain ⟨v',hv'⟩:∃ v',v'=Value.slice (some ⟨g,0,none⟩) (s.ws.length+1) cap:=⟨_,rfl⟩
 rw [←hv'] at k1 k2
 have hvo:v'.ownBlock=some g:=by rw [hv'];rfl
 have hB:∀ tag,tag≠.uns→(Ygu s A S v').blk tag=s.blk tag:=fun tag ht=>by
  cases tag using Tag.elim with
  | uns=>exact absurd rfl ht
  | _=>rfl
 have hgr:Ydb s (Ygu s A S v') w.heap.size:=fun tag k hk=>by
  by_cases hu:tag=.uns
  ·subst hu
   have hk':v'.ownBlock=some k:=hk;rw [hvo] at hk';simp only [Option.some.injEq] at hk';subst hk';exact k4.imp id id
  ·rw [hB tag hu] at hk;exact .inl hk
 have k1':w'.ownsRow (s.db+1) 143 65 v' (s.ws ++ [(A,S)]).length (Ycs (s.ws ++ [(A,S)])):=by
  rw [List.length_append,Yri];exact k1
 have hul:=k1.lt
 refine ⟨rfl,v',⟨h.step (fun tag=>tag=.disk∨tag=.uns) ?_ ?_ ?_ ?_ ?_ k5.size,hgr,fun q hq hn=>k3 q hq (fun e=>hn .disk (by rw [e];rfl)) (fun e=>hn .uns e),k5⟩⟩
 ·intro tag ht
  simp only [not_or] at ht;refine ⟨hB tag ht.2,fun W hW=>?_⟩
  cases tag using Tag.elim with
  | disk=>exact absurd rfl ht.1
  | uns=>exact absurd rfl ht.2
  | _=>exact hW
 ·intro tag k ht hk
  simp only [not_or] at ht;exact k3 k (h.lt tag k hk) (fun e=>ht.1 (h.apart tag .disk k hk (by rw [e];rfl))) (fun e=>ht.2 (h.apart tag .uns k hk e))
 ·rintro tag (rfl | rfl)
  ·exact k2
  ·exact k1'
 ·intro tag k htg hk
  rcases hgr tag k hk with h5 | h5
  ·exact .inl h5
  ·rcases htg with rfl | rfl
   ·exact .inl hk
   ·exact .inr ⟨h5,(hul k hk).2⟩
 ·rintro a b k (rfl | rfl) (rfl | rfl) h5 h6
  ·rfl
  ·have h7:v'.ownBlock=some k:=h6
   have h8:some s.db=some k:=h5;simp only [Option.some.injEq] at h8;have:=(hul k h7).1;omega
  ·have h7:v'.ownBlock=some k:=h5
   have h8:some s.db=some k:=h6;simp only [Option.some.injEq] at h8;have:=(hul k h7).1;omega
  ·rfl
theorem Ysr {k:TypeId} (h:Yap w k b n M) (t e:TypeId) (ht:prog.underlying t=some (.map k e)) (ty:TypeId):∃ w',(Builtin.clear_ #[t] ty #[.map (some b)]).run prog w=.ok (.tuple #[]) w'∧Yap w' k b 0 (.map [])∧(∀ q,q≠b→w'.heap[q]? = w.heap[q]?)∧w'.heap.size=w.heap.size∧Below 0 w w':=by
 obtain ⟨es,clock,hb,hfit,_⟩:=h;have hr:(Builtin.clear_ #[t] ty #[.map (some b)]).run prog w=.ok (.tuple #[]) { w with heap:=w.heap.setIfInBounds b (.map #[] clock) }:=by
  simp [Builtin.clear_,run_underlying ht,Go.MapKept.run_getObj_map hb,Go.MapKept.run_setObj_map _ hb,Result.andThen]
 have hs:=Go.MapKept.heap_set (o':=.map #[] clock) hb;refine ⟨_,hr,⟨#[],clock,hs.1,?_,Nat.le_refl _,rfl⟩,hs.2,by simp,rfl,rfl,rfl,by simp,fun q hq=>by omega⟩;exact ⟨by simp,Go.MapKept.stamped_empty clock,by simp⟩
def Yd1 (a b:Int) (ps:Yaf):Ybq:=⟨a,b,(Ybo ps 0).1,(Ybo ps 0).2,(Ybo ps 1).1,(Ybo ps 1).2,(Ybo ps 2).1,(Ybo ps 2).2,(Ybo ps 3).1,(Ybo ps 3).2⟩
theorem Y0g (a b:Int):∀ ps:Yaf,ps.length≤4→(∀ p∈ps,1≤p.1.size)→(Yd1 a b ps).pairs=ps:=by
 have hne:∀ k:ByteArray,1≤k.size→k≠ByteArray.empty:=fun k h e=>by rw [e] at h;simp at h
 intro ps hl hk;match ps,hl,hk with
 | [],_,_=>rfl
 | [p],_,hk=>
  have h0:=hne p.1 (hk p (by simp));simp [Yd1,Ybq.pairs,Ycq,Yel,Ybo,h0]
 | [p,q],_,hk=>
  have h0:=hne p.1 (hk p (by simp));have h1:=hne q.1 (hk q (by simp));simp [Yd1,Ybq.pairs,Ycq,Yel,Ybo,h0,h1]
 | [p,q,r],_,hk=>
  have h0:=hne p.1 (hk p (by simp));have h1:=hne q.1 (hk q (by simp));have h2:=hne r.1 (hk r (by simp));simp [Yd1,Ybq.pairs,Ycq,Yel,Ybo,h0,h1,h2]
 | [p,q,r,t],_,hk=>
  have h0:=hne p.1 (hk p (by simp));have h1:=hne q.1 (hk q (by simp));have h2:=hne r.1 (hk r (by simp));have h3:=hne t.1 (hk t (by simp));simp [Yd1,Ybq.pairs,Ycq,Yel,Ybo,h0,h1,h2,h3]
 | _ :: _ :: _ :: _ :: _ :: _,h,_=>simp at h
theorem Y0h (c0 c1:Ybq):(Ya3.of c0 c1 2).at'<2:=by
 unfold Ya3.of Ya3.step Ya3.start;repeat' split
 all_goals simp
theorem Yss {start:Int} {c:Ybq} (h:Yeb start count c):Yea start (count+1) c.a c.b=true∧Yea c.a c.b start (count+1)=false:=by
 unfold Yea orI Yev;rcases h with h | ⟨h1,h2⟩
 ·have e1:¬start<c.a:=by omega
  have e2:¬c.a=start:=by omega
  simp [h,e1]
 ·rw [h1]
  have e1:¬count+1<c.b:=by omega
  have e2:c.b<count+1:=by omega
  simp [e1,e2]
theorem Y0i {start:Int} (h:0≤start∧0≤count):Yea start (count+1) 0 0=true:=by
 unfold Yea orI Yev;have e1:¬start<0:=by omega
 have e2:¬count+1<0:=by omega
 have e3:(0:Int)<count+1:=by omega
 by_cases h0:0<start
 ·simp [h0,e1]
 ·simp [h0,e1,e2,e3]
def Ygv (cp:Ybq×Ybq) (t:Nat) (c:Ybq):Ybq×Ybq:=if t=0 then (c,cp.2) else (cp.1,c)
theorem Y0j {start:Int} {cp:Ybq×Ybq} (h0:Yeb start count cp.1) (h1:Yeb start count cp.2) (hz:0≤start∧0≤count) (t:Nat) (ht:t<2) (c:Ybq) (hc:c.a=start∧c.b=count+1):(Ya3.of (Ygv cp t c).1 (Ygv cp t c).2 2).rec'=c.pairs∧(Ya3.of (Ygv cp t c).1 (Ygv cp t c).2 2).at'=t:=by
 have a0:=Yss h0;have a1:=Yss h1;have az:=Y0i hz;have h01:t=0∨t=1:=by omega
 rcases h01 with rfl | rfl
 ·simp only [Ygv,if_true,Ya3.of,Ya3.step,Ya3.start,hc.1,hc.2,az,a1.2]
  exact ⟨rfl,rfl⟩
 ·simp only [Ygv,Ya3.of,Ya3.step,Ya3.start,hc.1,hc.2,show ¬(1:Nat)=0 by omega,if_false]
  by_cases hb:Yea cp.1.a cp.1.b 0 0=true
  ·rw [if_pos hb]
   show (if Yea start (count+1) cp.1.a cp.1.b=true then _ else _:Ya3).rec'=_∧(if Yea start (count+1) cp.1.a cp.1.b=true then _ else _:Ya3).at'=_;rw [if_pos a0.1];exact ⟨rfl,rfl⟩
  ·rw [if_neg hb]
   show (if Yea start (count+1) 0 0=true then _ else _:Ya3).rec'=_∧(if Yea start (count+1) 0 0=true then _ else _:Ya3).at'=_;rw [if_pos az];exact ⟨rfl,rfl⟩
structure Fl (s0 s:Sv) (done:List Nat):Prop where
 same:∃ c D ws v cp,s = { s0 with count:=c,D:=D,ws:=ws,v:=v,cp:=cp }
 dsz:s.D.size=27779
 dv:s.D[27776]? = some s.v
 fuse:s.D[27777]? = some (.int .i64 0)
 ok:Ydn s.ws
 db:∀ i u,i<27776→s.D[i]? = some u→Ycm u
 wb:∀ p∈s.ws,∀ u∈p.2,Ycm u
 wn:s.ws.length=2*done.length
 ct:s.count=s0.count+done.length
 on:∀ n,n<8→Ykc s.D s.ws n (s.cp n).1 (s.cp n).2∧Yeb s0.start s.count (s.cp n).1∧Yeb s0.start s.count (s.cp n).2
 old:∀ n,n∉done→s.cp n=s0.cp n
 new:∀ n,n<8→n∈done→s0.cont n=(Ya3.of (s.cp n).1 (s.cp n).2 2).rec'
 logd:Yi4 s.D s.ws s0.start s0.len s0.log
theorem Fl.start (g:Yar s) (hw:s.ws=[]):Fl s s []:=
 ⟨⟨s.count,s.D,s.ws,s.v,s.cp,rfl⟩,g.dsz,g.dv,g.fuse,g.ok,g.db,g.wb,by rw [hw];rfl,by simp,fun n hn=>⟨(g.load n hn).on,(g.load n hn).old⟩,fun _ _=>rfl,(fun n _ h=>by cases h),g.logd⟩
theorem Y0k (D:Array Value) (ws:List (Nat×List Value)) (a A:Nat) (S0 S1:List Value) (v v':Value) (ha:a<434):Yay ((D.setIfInBounds 27776 v).setIfInBounds 27776 v') (ws ++ [(A,S0)] ++ [(A+1,S1)]) a=if a=A then S0 else if a=A+1 then S1 else Yay D ws a:=by
 by_cases h1:a=A+1
 ·subst h1
  rw [Ynu,if_neg (by omega),if_pos rfl]
 ·rw [Yfa _ _ _ _ _ _ (fun e=>h1 e.symm) ha]
  by_cases h0:a=A
  ·subst h0
   rw [Ynu,if_pos rfl]
  ·rw [Yfa _ _ _ _ _ _ (fun e=>h0 e.symm) ha,if_neg h0,if_neg h1]
def Ygw (s:Sv) (n t:Nat) (c:Ybq) (S0 S1:List Value) (v v':Value):Sv:=
 { s with count:=s.count+1,D:=(s.D.setIfInBounds 27776 v).setIfInBounds 27776 v',ws:=s.ws ++ [(2+(n*2+t)*2,S0)] ++ [(2+(n*2+t)*2+1,S1)],v:=v',cp:=fun m=>if m=n then Ygv (s.cp n) t c else s.cp m }
theorem Fl.step {s0:Sv} {done:List Nat} (F:Fl s0 s done) (g:Yar s0) (n:Nat) (hn:n<8) (hnd:n∉done) (hd:done.length≤8) (hne:∀ p∈s0.cont n,1≤p.1.size) (t:Nat) (ht:t<2) (v v':Value):
 Fl s0 (Ygw s n t (Yd1 s0.start (s.count+1) (s0.cont n)) (Yam s0.start (s.count+1) (Ybb (s0.cont n) 0)) (Yam s0.start (s.count+1) (Ybb (s0.cont n) 1)) v v') (done ++ [n]):=by
 obtain ⟨r1,r2,r3⟩:=g.rise n hn
 have hct:=g.ct
 have hac:=g.ac
 have hln:=g.ln
 have hsc:=F.ct
 have hcnt:0≤s.count+1∧s.count+1<4294967296:=by omega
 have hfit:=fun j=>Yie r3 j
 have hcf:(Yd1 s0.start (s.count+1) (s0.cont n)).Fits:=⟨⟨g.st.1,g.st.2,hcnt.1,hcnt.2⟩,(hfit 0).1,(hfit 0).2,(hfit 1).1,(hfit 1).2,(hfit 2).1,(hfit 2).2,(hfit 3).1,(hfit 3).2⟩
 have hl:∀ i,(Yam s0.start (s.count+1) (Ybb (s0.cont n) i)).length=64:=fun i=>Yeh _ _ _ (by rw [Yly r3];omega)
 have ho:∀ i,∀ u∈Yam s0.start (s.count+1) (Ybb (s0.cont n) i),u.oneCell'=true:=fun i=>Yf1 _ _ _ (Yjc _ i)
 have hby:∀ i,∀ u∈Yam s0.start (s.count+1) (Ybb (s0.cont n) i),Ycm u:=fun i=>Ylr _ _ _ (Ynh _ _ _ _ (hfit _).1 (hfit _).2 (hfit _).1 (hfit _).2)
 obtain ⟨A,hA⟩:∃ A,A=2+(n*2+t)*2:=⟨_,rfl⟩
 have hA4:A+1<34:=by omega
 have hrd:=fun a ha=>Y0k s.D s.ws a A (Yam s0.start (s.count+1) (Ybb (s0.cont n) 0)) (Yam s0.start (s.count+1) (Ybb (s0.cont n) 1)) v v' ha
 have hzz:=F.dsz
 have hD2:((s.D.setIfInBounds 27776 v).setIfInBounds 27776 v').size=27779:=by rw [Array.size_setIfInBounds,Array.size_setIfInBounds];exact hzz
 have hpe:∀ m,m<8→Yeb s0.start (s.count+1) (s.cp m).1∧Yeb s0.start (s.count+1) (s.cp m).2:=fun m hm=>⟨(F.on m hm).2.1.mono (by omega),(F.on m hm).2.2.mono (by omega)⟩
 refine ⟨?_,?_,?_,?_,?_,?_,?_,?_,?_,?_,?_,?_,?_⟩
 ·obtain ⟨c,D,ws,w,cp,hs⟩:=F.same
  unfold Ygw;rw [hs];exact ⟨_,_,_,_,_,rfl⟩
 ·exact hD2
 ·show ((s.D.setIfInBounds 27776 v).setIfInBounds 27776 v')[27776]? = some v'
  exact Array.getElem?_setIfInBounds_self_of_lt (by rw [Array.size_setIfInBounds,hzz];omega)
 ·show ((s.D.setIfInBounds 27776 v).setIfInBounds 27776 v')[27777]? = _
  rw [Array.getElem?_setIfInBounds_ne (by omega),Array.getElem?_setIfInBounds_ne (by omega)];exact F.fuse
 ·intro p hp
  have hp':p∈s.ws ++ [(2+(n*2+t)*2,_)] ++ [(2+(n*2+t)*2+1,_)]:=hp;rw [←hA] at hp';simp only [List.mem_append,List.mem_singleton] at hp';rcases hp' with (hp' | rfl) | rfl
  ·exact F.ok p hp'
  ·exact ⟨by show A<434;omega,hl 0,ho 0⟩
  ·exact ⟨by show A+1<434;omega,hl 1,ho 1⟩
 ·intro i u hi hu
  have hu':((s.D.setIfInBounds 27776 v).setIfInBounds 27776 v')[i]? = some u:=hu;rw [Array.getElem?_setIfInBounds_ne (by omega),Array.getElem?_setIfInBounds_ne (by omega)] at hu';exact F.db i u hi hu'
 ·intro p hp
  have hp':p∈s.ws ++ [(2+(n*2+t)*2,_)] ++ [(2+(n*2+t)*2+1,_)]:=hp;simp only [List.mem_append,List.mem_singleton] at hp';rcases hp' with (hp' | rfl) | rfl
  ·exact F.wb p hp'
  ·exact hby 0
  ·exact hby 1
 ·show (s.ws ++ [_] ++ [_]).length=_
  have:=F.wn;simp only [List.length_append,List.length_singleton];omega
 ·show s.count+1=_
  rw [hsc];simp;omega
 ·intro m hm
  obtain ⟨⟨⟨b1,b2⟩,⟨b3,b4⟩,b5,b6⟩,_⟩:=F.on m hm;obtain ⟨e1,e2⟩:=hpe m hm;have hrd2:∀ a,a<434→Yay (Ygw s n t (Yd1 s0.start (s.count+1) (s0.cont n)) (Yam s0.start (s.count+1) (Ybb (s0.cont n) 0)) (Yam s0.start (s.count+1) (Ybb (s0.cont n) 1)) v v').D (Ygw s n t (Yd1 s0.start (s.count+1) (s0.cont n)) (Yam s0.start (s.count+1) (Ybb (s0.cont n) 0)) (Yam s0.start (s.count+1) (Ybb (s0.cont n) 1)) v v').ws a=if a=A then Yam s0.start (s.count+1) (Ybb (s0.cont n) 0) else if a=A+1 then Yam s0.start (s.count+1) (Ybb (s0.cont n) 1) else Yay s.D s.ws a:=fun a ha=>by
   have h9:=hrd a ha;rw [hA] at h9 ⊢;exact h9
  have hcp:(Ygw s n t (Yd1 s0.start (s.count+1) (s0.cont n)) (Yam s0.start (s.count+1) (Ybb (s0.cont n) 0)) (Yam s0.start (s.count+1) (Ybb (s0.cont n) 1)) v v').cp m=if m=n then Ygv (s.cp n) t (Yd1 s0.start (s.count+1) (s0.cont n)) else s.cp m:=rfl
  have hcn:(Ygw s n t (Yd1 s0.start (s.count+1) (s0.cont n)) (Yam s0.start (s.count+1) (Ybb (s0.cont n) 0)) (Yam s0.start (s.count+1) (Ybb (s0.cont n) 1)) v v').count=s.count+1:=rfl;have hel:Yeb s0.start (s.count+1) (Yd1 s0.start (s.count+1) (s0.cont n)):=.inr ⟨rfl,Int.le_refl _⟩;rw [hcp,hcn];generalize Ygw s n t (Yd1 s0.start (s.count+1) (s0.cont n)) (Yam s0.start (s.count+1) (Ybb (s0.cont n) 0)) (Yam s0.start (s.count+1) (Ybb (s0.cont n) 1)) v v'=sf at hrd2 ⊢;by_cases hmn:m=n
  ·subst hmn
   rw [if_pos rfl];have h01:t=0∨t=1:=by omega
   rcases h01 with rfl | rfl
   ·refine ⟨⟨⟨?_,?_⟩,⟨?_,?_⟩,hcf,b6⟩,hel,e2⟩
    ·rw [hrd2 _ (by omega),if_pos hA.symm];rfl
    ·rw [hrd2 _ (by omega),if_neg (by omega),if_pos (by omega)];rfl
    ·rw [hrd2 _ (by omega),if_neg (by omega),if_neg (by omega)];exact b3
    ·rw [hrd2 _ (by omega),if_neg (by omega),if_neg (by omega)];exact b4
   ·refine ⟨⟨⟨?_,?_⟩,⟨?_,?_⟩,b5,hcf⟩,e1,hel⟩
    ·rw [hrd2 _ (by omega),if_neg (by omega),if_neg (by omega)];exact b1
    ·rw [hrd2 _ (by omega),if_neg (by omega),if_neg (by omega)];exact b2
    ·rw [hrd2 _ (by omega),if_pos hA.symm];rfl
    ·rw [hrd2 _ (by omega),if_neg (by omega),if_pos (by omega)];rfl
  ·rw [if_neg hmn]
   refine ⟨⟨⟨?_,?_⟩,⟨?_,?_⟩,b5,b6⟩,e1,e2⟩
   ·rw [hrd2 _ (by omega),if_neg (by omega),if_neg (by omega)];exact b1
   ·rw [hrd2 _ (by omega),if_neg (by omega),if_neg (by omega)];exact b2
   ·rw [hrd2 _ (by omega),if_neg (by omega),if_neg (by omega)];exact b3
   ·rw [hrd2 _ (by omega),if_neg (by omega),if_neg (by omega)];exact b4
 ·intro m hm
  simp only [List.mem_append,List.mem_singleton,not_or] at hm;show (if m=n then _ else s.cp m)=_;rw [if_neg hm.2];exact F.old m hm.1
 ·intro m hm hmd
  show s0.cont m=(Ya3.of (if m=n then _ else s.cp m).1 (if m=n then _ else s.cp m).2 2).rec';by_cases hmn:m=n
  ·subst hmn
   rw [if_pos rfl,(Y0j (F.on m hm).2.1 (F.on m hm).2.2 ⟨g.st.1,by omega⟩ t ht _ ⟨rfl,rfl⟩).1,Y0g _ _ _ r2 hne]
  ·rw [if_neg hmn]
   refine F.new m hm ?_;simp only [List.mem_append,List.mem_singleton] at hmd;exact hmd.resolve_right hmn
 ·refine ⟨F.logd.len,fun i hi=>?_,fun i hi hi4=>?_⟩
  ·have hll:=F.logd.len
   refine (F.logd.at' i hi).same ?_;have h9:=hrd (34+i) (by omega);rw [if_neg (by omega),if_neg (by omega),hA] at h9;exact h9
  ·obtain ⟨a,c,e,k1,k2⟩:=F.logd.rest i hi hi4
   refine ⟨a,c,e,k1.same ?_,k2⟩;have h9:=hrd (34+i) (by omega);rw [if_neg (by omega),if_neg (by omega),hA] at h9;exact h9
end Go.Proofs.YtihbngfbcnojcaaGreat
