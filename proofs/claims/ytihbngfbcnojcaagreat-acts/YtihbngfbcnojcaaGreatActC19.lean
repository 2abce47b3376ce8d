import Derived.Test.YtihbngfbcnojcaaGreatActC18
set_option maxRecDepth 100000
set_option maxHeartbeats 8000000
namespace Go.Proofs.YtihbngfbcnojcaaGreat
open Go.RowKit Tryz
variable {ops:Array Oper} {is k:Bool} {key s:ByteArray} {Q:Exit→Act→World→Prop} {c t:Int} {item x1 ys:List Value} {a b b1 b2 base cap g gb hb i m mb n n1 pb q s1 size:Nat} {B F:Nat→Prop} {o:Oper} {P PM PS:Sp} {e e1 e2:TypeId} {v v1 vb ve vp:Value} {W w w' w1:World}
theorem Ybd.touch {W':World} (h:Ybd w W pb a mb k PS PM F q b B) (hpw:pb<w.heap.size) (hBn:∀ x,B x→w.heap.size≤x) (hk:∀ x,x<W.heap.size→¬B x→W'.heap[x]? = W.heap[x]?) (hb:Below 0 W W'):Ybd w W' pb a mb k PS PM F q b (fun x=>B x∨(W.heap.size≤x∧x<W'.heap.size)):=by
 obtain ⟨⟨G,h1,h2,h3⟩,h4,h5,h6⟩:=h;have hs:=hb.size;have hs5:=h5.size;refine ⟨⟨G,h1.frame (fun x hx=>hk x (h1.lt x hx) (fun hB=>h3 x hB hx)) hs,fun x hx=>?_,fun x hx hg=>?_⟩,(hk pb (Yaz h4) (fun hB=>by have:=hBn pb hB;omega)).trans h4,h5.trans hb,fun x hx hn=>(hk x (by omega) (fun hB=>by have:=hBn x hB;omega)).trans (h6 x hx hn)⟩
 ·rcases h2 x hx with h7 | h7
  ·exact .inl h7
  ·exact .inr ⟨h7.1,by omega⟩
 ·rcases hx with hx | hx
  ·exact h3 x hx hg
  ·have:=h1.lt x hg;omega
structure Yks (w W w1:World) (pb a mb:Nat) (k:Bool) (F:Nat→Prop) (q:Nat) (t:Int) (key:ByteArray) (is:Bool) (v:ByteArray) (c:Int):Prop where
 cell:w1.heap[pb]? = some (.cells #[.pointer (some ⟨a,0,none⟩),.pointer (some ⟨mb,0,none⟩),.bool false] 83 (0,0))
 kept:∀ x,w.heap.size≤x→x<W.heap.size→w1.heap[x]? = W.heap[x]?
 size:W.heap.size≤w1.heap.size
 next:∀ W',(∀ x,x<w1.heap.size→¬(w.heap.size≤x∧x<W.heap.size)→W'.heap[x]? = w1.heap[x]?)→Below 0 w1 W'→Calls prog 94 #[.pointer (some ⟨mb,0,none⟩),.int .i64 t,.string key] W' fun e w'=>e=.returned (.tuple #[.agg #[.bool is,.string v],.int .i64 c])∧(∀ W'',(∀ x,x<w'.heap.size→¬((w.heap.size≤x∧x<W.heap.size)∨(w1.heap.size≤x∧x<W'.heap.size))→W''.heap[x]? = w'.heap[x]?)→Below 0 w' W''→Yce w W'' a mb k F q)∧w'.heap[pb]? = some (.cells #[.pointer (some ⟨a,0,none⟩),.pointer (some ⟨mb,0,none⟩),.bool false] 83 (0,0))∧(∀ x,((w.heap.size≤x∧x<W.heap.size)∨(w1.heap.size≤x∧x<W'.heap.size))→w'.heap[x]? = W'.heap[x]?)∧W'.heap.size≤w'.heap.size
theorem Yuf {P':Sp} {q1:Nat} {v:ByteArray} (hR:Ybd w w1 pb a mb k P' P F q1 b1 (fun x=>w.heap.size≤x∧x<W.heap.size)) (hk:∀ x,(w.heap.size≤x∧x<W.heap.size)→w1.heap[x]? = W.heap[x]?) (hsz:W.heap.size≤w1.heap.size) (hpw:pb<w.heap.size) (hpb:¬F pb) (hF:∀ x,F x→x<w.heap.size) (hq:q1≤q+1) (hb2:b2≤q+1)
 (hM:∀ W FM,Yc1 W mb k P FM b1→Calls prog 94 #[.pointer (some ⟨mb,0,none⟩),.int .i64 t,.string key] W fun e w'=>e=.returned (.tuple #[.agg #[.bool is,.string v],.int .i64 c])∧Yde W w' mb k P' FM b2):Yks w W w1 pb a mb k F q t key is v c:=by
 refine ⟨hR.cell,fun x h1 h2=>hk x ⟨h1,h2⟩,hsz,fun W' hW hb=>?_⟩
 have hR2:=hR.touch hpw (fun x hx=>hx.1) hW hb
 obtain ⟨FM,k1,k2⟩:=hR2.mod hpw hpb (fun x hx=>hx.elim (fun h1=>by have:=hb.size;omega) (fun h1=>h1.2))
 refine (hM W' FM k1).mono ?_
 rintro e w' ⟨h1,h2⟩
 obtain ⟨r1,r2⟩:=k2 w' P' b2 h2
 have hs1:=hR.below.size
 refine ⟨h1,fun W'' hW'' hb''=>?_,r1.cell,r2,h2.2.1.size⟩
 have h8:=(r1.touch hpw (fun x hx=>hx.elim (fun h9=>h9.1) (fun h9=>by omega)) hW'' hb'').fin hF
 exact ⟨P',h8.1.upq hq hb2,h8.2⟩
theorem Y4c (hR:Ybd w W pb a mb k P P F q q (fun x=>w.heap.size≤x∧x<W.heap.size)) (hpw:pb<w.heap.size) (hpb:¬F pb) (hF:∀ x,F x→x<w.heap.size) (hq:q≤1999999999998) (t:Int) (ht:Yax t) (key:ByteArray) (hks:key.size≤140737488355328):
 Calls prog 23 #[.pointer (some ⟨a,0,none⟩),.int .i64 t,.string key] W fun e w1=>∃ (is:Bool) (val:ByteArray) (c:Int),e=.returned (.tuple #[.agg #[.bool is,.string val],.int .i64 c])∧(c == 4)=false∧Yks w W w1 pb a mb k F q t key is val c:=by
 obtain ⟨XS,k1,k2⟩:=hR.store hpw hpb (fun x hx=>hx.2)
 rcases Y2u (P:=P) t key with ⟨p,hp,hs,hf⟩ | ⟨r,hr⟩
 ·refine (Y2s k1 (by omega) t p hp key hs hf).mono ?_
  rintro e w1 ⟨h1,h2⟩;obtain ⟨r1,r2⟩:=k2 w1 _ (q+1) h2;exact ⟨_,_,0,h1,by rfl,Yuf r1 r2 h2.2.1.size hpw hpb hF (by omega) (by omega) (fun W FM hm=>Y3q hm (by omega) t p hp key hs hf)⟩
 ·refine (Y2t k1 t ht key hks r hr).mono ?_
  rintro e w1 ⟨h1,h2⟩;obtain ⟨r1,r2⟩:=k2 w1 P q h2;have hc:r≠4:=by
   rcases hr with ⟨_,h3⟩ | ⟨_,_,h3⟩
   ·rw [h3]
    unfold Yc0 Ya8;split
    ·omega
    ·split <;> omega
   ·omega
  exact ⟨false,ByteArray.empty,r,h1,by simpa using hc,Yuf r1 r2 h2.2.1.size hpw hpb hF (by omega) (by omega) (fun W FM hm=>Y3r hm t key r hr)⟩
structure Yug (w X:World) (pb a mb:Nat) (k:Bool) (F:Nat→Prop) (q:Nat) (t:Int) (key:ByteArray) (box:Array Value) (gb:Nat) (is:Bool) (v:ByteArray) (c:Int):Prop where
 cell:X.heap[pb]? = some (.cells #[.pointer (some ⟨a,0,none⟩),.pointer (some ⟨mb,0,none⟩),.bool false] 83 (0,0))
 box:X.heap[w.heap.size]? = some (.cells box 80 (0,0))
 got:X.heap[gb]? = some (.cells #[.bool is,.string v] 38 (0,0))
 next:∀ W',Below X.heap.size X W'→Calls prog 94 #[.pointer (some ⟨mb,0,none⟩),.int .i64 t,.string key] W' fun e w'=>e=.returned (.tuple #[.agg #[.bool is,.string v],.int .i64 c])∧(∀ W'',(∀ x,x<w'.heap.size→x<X.heap.size∨W'.heap.size≤x→W''.heap[x]? = w'.heap[x]?)→Below 0 w' W''→Yce w W'' a mb k F q)∧w'.heap[pb]? = X.heap[pb]?∧w'.heap[w.heap.size]? = X.heap[w.heap.size]?∧w'.heap[gb]? = X.heap[gb]?∧(∀ x,X.heap.size≤x→x<W'.heap.size→w'.heap[x]? = W'.heap[x]?)∧W'.heap.size≤w'.heap.size
theorem Y4d {box:Array Value} {v:ByteArray} (M:Yks w W w1 pb a mb k F q t key is v c) (hw:w.heap.size<W.heap.size) (hbx:w1.heap[w.heap.size]? = some (.cells box 80 (0,0))):Yug w (w1.alloc (.cells #[.bool is,.string v] 38)) pb a mb k F q t key box w1.heap.size is v c:=by
 have hb:Below w1.heap.size w1 (w1.alloc (.cells #[.bool is,.string v] 38)):=(Below.refl _ _).alloc (Nat.le_refl _) _;have hz:(w1.alloc (.cells #[.bool is,.string v] 38)).heap.size=w1.heap.size+1:=by simp
 have hm:=M.size;have c1:=(hb.block pb (Yaz M.cell)).trans M.cell;refine ⟨c1,(hb.block _ (by omega)).trans hbx,heap_alloc_new _ _,fun W' hW'=>?_⟩;refine (M.next W' (fun x hx _=>(hW'.block x (by omega)).trans (hb.block x hx)) ((hb.mono (Nat.zero_le _)).trans (hW'.mono (Nat.zero_le _)))).mono ?_;rintro e w' ⟨h1,h2,h3,h4,h5⟩;have hs:=hW'.size;refine ⟨h1,fun W'' hW'' hb''=>h2 W'' (fun x hx hn=>hW'' x hx (by
  by_cases hx2:x<(w1.alloc (.cells #[.bool is,.string v] 38)).heap.size
  ·exact .inl hx2
  ·by_cases hx3:x<W'.heap.size
   ·exact absurd (.inr ⟨by omega,hx3⟩) hn
   ·exact .inr (by omega))) hb'',h3.trans c1.symm,?_,?_,fun x hx1 hx2=>h4 x (.inr ⟨by omega,hx2⟩),h5⟩
 ·exact (h4 _ (.inl ⟨Nat.le_refl _,hw⟩)).trans (hW'.block _ (by omega))
 ·exact (h4 _ (.inr ⟨Nat.le_refl _,by omega⟩)).trans (hW'.block _ (by omega))
theorem Y4e {box:Array Value} {v:ByteArray} (gb:Nat) (M:Yks w W w1 pb a mb k F q t key is v c) (hpw:pb<w.heap.size) (hg1:w.heap.size<gb) (hg2:gb<W.heap.size) (hx:w1.heap[gb]? = some (.cells #[.bool false,.string ByteArray.empty] 38 (0,0))) (hbx:w1.heap[w.heap.size]? = some (.cells box 80 (0,0))):Yug w ((w1.setCell ⟨gb,0,none⟩ (.bool is)).setCell ⟨gb,1,none⟩ (.string v)) pb a mb k F q t key box gb is v c:=by
 have hk:∀ x,x≠gb→((w1.setCell ⟨gb,0,none⟩ (.bool is)).setCell ⟨gb,1,none⟩ (.string v)).heap[x]? = w1.heap[x]?:=fun x h=>(Below.heap_setCell _ _ _ _ h).trans (Below.heap_setCell _ _ _ _ h)
 have hb:Below 0 w1 ((w1.setCell ⟨gb,0,none⟩ (.bool is)).setCell ⟨gb,1,none⟩ (.string v)):=((Below.refl _ _).setCell (p:=⟨gb,0,none⟩) (by simp) _).setCell (p:=⟨gb,1,none⟩) (by simp) _;have hz:((w1.setCell ⟨gb,0,none⟩ (.bool is)).setCell ⟨gb,1,none⟩ (.string v)).heap.size=w1.heap.size:=by simp
 have hm:=M.size;have c1:=(hk pb (by omega)).trans M.cell;refine ⟨c1,(hk _ (by omega)).trans hbx,(Yak _ _ 1 _ _ _ (Yak _ _ 0 _ _ _ hx)).trans rfl,fun W' hW'=>?_⟩;have hs:=hW'.size;refine (M.next W' (fun x hx hn=>(hW'.block x (by omega)).trans (hk x (fun e=>hn (by rw [e];exact ⟨by omega,hg2⟩)))) (hb.trans (hW'.mono (Nat.zero_le _)))).mono ?_;rintro e w' ⟨h1,h2,h3,h4,h5⟩;refine ⟨h1,fun W'' hW'' hb''=>h2 W'' (fun x hx hn=>hW'' x hx (by
  by_cases hx2:x<((w1.setCell ⟨gb,0,none⟩ (.bool is)).setCell ⟨gb,1,none⟩ (.string v)).heap.size
  ·exact .inl hx2
  ·by_cases hx3:x<W'.heap.size
   ·exact absurd (.inr ⟨by omega,hx3⟩) hn
   ·exact .inr (by omega))) hb'',h3.trans c1.symm,?_,?_,fun x hx1 hx2=>h4 x (.inr ⟨by omega,hx2⟩),h5⟩
 ·exact (h4 _ (.inl ⟨Nat.le_refl _,by omega⟩)).trans (hW'.block _ (by omega))
 ·exact (h4 _ (.inl ⟨by omega,hg2⟩)).trans (hW'.block _ (by omega))
theorem Ybd.priv {C:Nat→Prop} (h:Ybd w W pb a mb k PS PM F q b B) (hc:∀ x,C x→B x):Ybd w W pb a mb k PS PM F q b C:=by
 obtain ⟨⟨G,h1,h2,h3⟩,h4,h5,h6⟩:=h;exact ⟨⟨G,h1,h2,fun x hx=>h3 x (hc x hx)⟩,h4,h5,h6⟩
theorem Y4f (h:Ydr w a mb k P F q q) (hp:Yee w pb a mb F) (hq:q≤1999999999998) (o:OpV) (ho:o.kind=3) (hot:Yax o.t) (hok:o.key.size≤140737488355328):
 Calls prog 65 #[.pointer (some ⟨pb,0,none⟩),.agg o.cells.toArray] w fun e w'=>e=.returned (.bool true)∧Yce w w' a mb k F q:=by
 obtain ⟨kind,on,om,t,key,val,keep,tear,fuse⟩:=o
 simp only at ho hot hok
 subst ho
 simp only [OpV.cells]
 have hpw:pb<w.heap.size:=Yaz hp.cell
 have hF:∀ x,F x→x<w.heap.size:=fun x hx=>h.lt x hx
 obtain ⟨W0,hW0⟩:∃ W0,W0=w.alloc (.cells #[.int .i64 3,.int .i64 on,.int .i64 om,.int .i64 t,.string key,.string val,.int .u64 keep,.int .i64 tear,.int .i64 fuse] 80):=⟨_,rfl⟩
 have hb0:Below w.heap.size w W0:=by rw [hW0];exact (Below.refl _ _).alloc (Nat.le_refl _) _
 have hz0:W0.heap.size=w.heap.size+1:=by rw [hW0];simp
 have hg0:W0.heap[w.heap.size]? = some (.cells #[.int .i64 3,.int .i64 on,.int .i64 om,.int .i64 t,.string key,.string val,.int .u64 keep,.int .i64 tear,.int .i64 fuse] 80 (0,0)):=by rw [hW0];exact heap_alloc_new w _
 have hRW:∀ W,Below w.heap.size w W→Ybd w W pb a mb k P P F q q (fun x=>w.heap.size≤x∧x<W.heap.size):=fun W hW=>((Ybd.start h hp).new hW).priv (fun x hx=>.inr hx)
 have HRW:=Yh hRW
 have c0:W0.cell? ⟨w.heap.size,0,none⟩=some (.int .i64 3):=Yaa hg0 rfl
 have c3:W0.cell? ⟨w.heap.size,3,none⟩=some (.int .i64 t):=Yaa hg0 rfl
 have c4:W0.cell? ⟨w.heap.size,4,none⟩=some (.string key):=Yaa hg0 rfl
 have p0:W0.cell? ⟨pb,0,none⟩=some (.pointer (some ⟨a,0,none⟩)):=Yaa (j:=0) ((hb0.block pb hpw).trans hp.cell) rfl
 have KB:Hid (∀ W,Below w.heap.size w W→Calls prog 23 #[.pointer (some ⟨a,0,none⟩),.int .i64 t,.string key] W fun e w1=>∃ (is:Bool) (val:ByteArray) (c:Int),e=.returned (.tuple #[.agg #[.bool is,.string val],.int .i64 c])∧(c == 4)=false∧Yks w W w1 pb a mb k F q t key is val c):=fun W hW=>Y4c (hRW W hW) hpw hp.out hF hq t hot key hok
 have HB0:=Yh hb0
 have HG0:=Yh hg0
 have HZ0:=Yh hz0
 have HPW:=Yh hpw
 have n1:W0.heap.size≠pb:=by omega
 have n2:W0.heap.size≠w.heap.size:=by omega
 have hpW0:pb<W0.heap.size:=by omega
 have hwW0:w.heap.size<W0.heap.size:=by omega
 clear h hp hb0 hg0 hRW hF hz0
 go_enter func65,ntmps65
 go_upto_region 1 with fail
 rw [←hW0]
 clear hW0
 go_upto_region 9 with fail
 go_region_held3 (fun w'=>w'.cell? ⟨pb,0,none⟩=some (.pointer (some ⟨a,0,none⟩))∧w'.cell? ⟨w.heap.size,3,none⟩=some (.int .i64 t)∧w'.cell? ⟨w.heap.size,4,none⟩=some (.string key))
  (go_keep)
  (first
   | (
    go_at_call 23;refine (KB.out (W0.drew.alloc (.cells #[.bool false,.string ByteArray.empty] 38)) (HB0.out.drew.alloc (by show w.heap.size≤W0.heap.size;have:=HZ0.out;omega) _)).mono ?_;rintro e w1 ⟨is,v,c,rfl,heq,M⟩;have HM:=Yh M;have hx3:w1.heap[W0.heap.size]? = some (.cells #[.bool false,.string ByteArray.empty] 38 (0,0)):=(M.kept W0.heap.size (by have:=HZ0.out;omega) (by simp)).trans (heap_alloc_new W0.drew _);have hbx:w1.heap[w.heap.size]? = _:=(M.kept w.heap.size (Nat.le_refl _) (by have:=HZ0.out;simp;omega)).trans ((Below.heap_alloc _ _ _ (by have:=HZ0.out;show w.heap.size<W0.heap.size;omega)).trans HG0.out);have HBX:=Yh hbx;have HX3:=Yh hx3;have x0:w1.cell? ⟨W0.heap.size,0,none⟩=some (.bool false):=Yaa hx3 rfl;have x1:w1.cell? ⟨W0.heap.size,1,none⟩=some (.string ByteArray.empty):=Yaa hx3 rfl;have y0:=Yah 0 hx3;have y1:=Yah 1 hx3;have n3:pb≠W0.heap.size:=by have:=HZ0.out;have:=HPW.out;omega
    have n4:w.heap.size≠W0.heap.size:=by have:=HZ0.out;omega
    have d0:w1.cell? ⟨pb,0,none⟩=some (.pointer (some ⟨a,0,none⟩)):=Yaa (j:=0) M.cell rfl;have d3:w1.cell? ⟨w.heap.size,3,none⟩=some (.int .i64 t):=Yaa (j:=3) hbx rfl;have d4:w1.cell? ⟨w.heap.size,4,none⟩=some (.string key):=Yaa (j:=4) hbx rfl;clear hx3 hbx M)
   | (
    go_at_call 23;go_must (
    refine (KB.out W0.drew HB0.out.drew).mono ?_;rintro e w1 ⟨is,v,c,rfl,heq,M⟩;have HM:=Yh M;have hbx:w1.heap[w.heap.size]? = _:=(M.kept w.heap.size (Nat.le_refl _) (by have:=HZ0.out;show w.heap.size<W0.heap.size;omega)).trans HG0.out;have HBX:=Yh hbx;have m1:pb<w1.heap.size:=Yaz M.cell;have m2:w.heap.size<w1.heap.size:=Yaz hbx;have d0:w1.cell? ⟨pb,0,none⟩=some (.pointer (some ⟨a,0,none⟩)):=Yaa (j:=0) M.cell rfl;have d3:w1.cell? ⟨w.heap.size,3,none⟩=some (.int .i64 t):=Yaa (j:=3) hbx rfl;have d4:w1.cell? ⟨w.heap.size,4,none⟩=some (.string key):=Yaa (j:=4) hbx rfl;clear hbx M)))
 all_goals first
  | (
   have hX3:=HX3.out;have hG:=Y4e W0.heap.size HM.out HPW.out (by have:=HZ0.out;omega) (by simp) hX3 HBX.out;clear hX3 HX3 x0 x1 y0 y1 n3 n4;revert hG;generalize ((w1.setCell ⟨W0.heap.size,0,none⟩ (.bool is)).setCell ⟨W0.heap.size,1,none⟩ (.string v))=X;generalize W0.heap.size=gb;intro hG)
  | (
   have hG:=Y4d HM.out (by have:=HZ0.out;show w.heap.size<W0.heap.size;omega) HBX.out;revert hG;generalize (w1.alloc (.cells #[.bool is,.string v] 38))=X;generalize w1.heap.size=gb;intro hG)
 all_goals
  have HG:=Yh hG;have z1:X.cell? ⟨pb,1,none⟩=some (.pointer (some ⟨mb,0,none⟩)):=Yaa (j:=1) hG.cell rfl;have z3:X.cell? ⟨w.heap.size,3,none⟩=some (.int .i64 t):=Yaa (j:=3) hG.box rfl;have z4:X.cell? ⟨w.heap.size,4,none⟩=some (.string key):=Yaa (j:=4) hG.box rfl;have l1:pb<X.heap.size:=Yaz hG.cell;have l2:w.heap.size<X.heap.size:=Yaz hG.box;have l3:gb<X.heap.size:=Yaz hG.got;have l4:X.heap.size≠pb:=by omega
  have l5:X.heap.size≠w.heap.size:=by omega
  clear hG;go_upto_region 12 with fail
  go_region_held3 (fun w'=>w'.cell? ⟨pb,1,none⟩=some (.pointer (some ⟨mb,0,none⟩))∧w'.cell? ⟨w.heap.size,3,none⟩=some (.int .i64 t)∧w'.cell? ⟨w.heap.size,4,none⟩=some (.string key))
   (go_keep)
   (first
    | (
     go_at_call 94;refine (HG.out.next (X.drew.alloc (.cells #[.bool false,.string ByteArray.empty] 38)) ((Below.refl _ _).drew.alloc (by simp) _)).mono ?_;rintro e w2 ⟨rfl,hact,hk1,hk2,hk3,hk4,hk5⟩;have HACT:=Yh hact;have hy3:w2.heap[X.heap.size]? = some (.cells #[.bool false,.string ByteArray.empty] 38 (0,0)):=(hk4 X.heap.size (Nat.le_refl _) (by simp)).trans (heap_alloc_new X.drew _);have HY3:=Yh hy3;have x0:w2.cell? ⟨X.heap.size,0,none⟩=some (.bool false):=Yaa hy3 rfl;have x1:w2.cell? ⟨X.heap.size,1,none⟩=some (.string ByteArray.empty):=Yaa hy3 rfl;have y0:=Yah 0 hy3;have y1:=Yah 1 hy3;have o3:pb≠X.heap.size:=by omega
     have o4:w.heap.size≠X.heap.size:=by omega
     have e1:w2.cell? ⟨pb,1,none⟩=some (.pointer (some ⟨mb,0,none⟩)):=Yaa (j:=1) (hk1.trans HG.out.cell) rfl;have e3:w2.cell? ⟨w.heap.size,3,none⟩=some (.int .i64 t):=Yaa (j:=3) (hk2.trans HG.out.box) rfl;have e4:w2.cell? ⟨w.heap.size,4,none⟩=some (.string key):=Yaa (j:=4) (hk2.trans HG.out.box) rfl;have HGB:=Yh (hk3.trans HG.out.got);have HSZ:Hid (X.heap.size<w2.heap.size):=Yaz hy3;clear hy3 hact hk1 hk2 hk3 hk4 hk5)
    | (
     go_at_call 94;go_must (
     refine (HG.out.next X.drew (Below.refl _ _).drew).mono ?_;rintro e w2 ⟨rfl,hact,hk1,hk2,hk3,hk4,hk5⟩;have HACT:=Yh hact;have e1:w2.cell? ⟨pb,1,none⟩=some (.pointer (some ⟨mb,0,none⟩)):=Yaa (j:=1) (hk1.trans HG.out.cell) rfl;have e3:w2.cell? ⟨w.heap.size,3,none⟩=some (.int .i64 t):=Yaa (j:=3) (hk2.trans HG.out.box) rfl;have e4:w2.cell? ⟨w.heap.size,4,none⟩=some (.string key):=Yaa (j:=4) (hk2.trans HG.out.box) rfl;have m3:pb<w2.heap.size:=Yaz (hk1.trans HG.out.cell);have m4:w.heap.size<w2.heap.size:=Yaz (hk2.trans HG.out.box);have HGB:=Yh (hk3.trans HG.out.got);clear hact hk1 hk2 hk3 hk4 hk5)))
  all_goals first
   | (
    have hA:Yce w ((w2.setCell ⟨X.heap.size,0,none⟩ (.bool is)).setCell ⟨X.heap.size,1,none⟩ (.string v)) a mb k F q:=HACT.out _ (fun x _ hx=>(Below.heap_setCell _ _ _ _ (show x≠X.heap.size by simp at hx;omega)).trans (Below.heap_setCell _ _ _ _ (show x≠X.heap.size by simp at hx;omega))) (((Below.refl _ _).setCell (p:=⟨X.heap.size,0,none⟩) (by simp) _).setCell (p:=⟨X.heap.size,1,none⟩) (by simp) _);have hgY:((w2.setCell ⟨X.heap.size,0,none⟩ (.bool is)).setCell ⟨X.heap.size,1,none⟩ (.string v)).heap[gb]? = _:=((Below.heap_setCell _ _ _ _ (show gb≠X.heap.size by omega)).trans (Below.heap_setCell _ _ _ _ (show gb≠X.heap.size by omega))).trans HGB.out;have hhY:((w2.setCell ⟨X.heap.size,0,none⟩ (.bool is)).setCell ⟨X.heap.size,1,none⟩ (.string v)).heap[X.heap.size]? = some (.cells #[.bool is,.string v] 38 (0,0)):=(Yak _ _ 1 _ _ _ (Yak _ _ 0 _ _ _ HY3.out)).trans rfl;clear HY3 x0 x1 y0 y1 o3 o4;revert hA hgY hhY;generalize ((w2.setCell ⟨X.heap.size,0,none⟩ (.bool is)).setCell ⟨X.heap.size,1,none⟩ (.string v))=Y;generalize X.heap.size=hb;intro hA hgY hhY)
   | (
    have hA:Yce w (w2.alloc (.cells #[.bool is,.string v] 38)) a mb k F q:=HACT.out _ (fun x hx _=>Below.heap_alloc _ _ _ hx) ((Below.refl _ _).alloc (by simp) _);have hgY:(w2.alloc (.cells #[.bool is,.string v] 38)).heap[gb]? = _:=(Below.heap_alloc _ _ _ (Yaz HGB.out)).trans HGB.out;have hhY:(w2.alloc (.cells #[.bool is,.string v] 38)).heap[w2.heap.size]? = some (.cells #[.bool is,.string v] 38 (0,0)):=heap_alloc_new _ _;revert hA hgY hhY;generalize (w2.alloc (.cells #[.bool is,.string v] 38))=Y;generalize w2.heap.size=hb;intro hA hgY hhY)
  all_goals
   have HA:=Yh hA;have g0:Y.cell? ⟨gb,0,none⟩=some (.bool is):=Yaa hgY rfl;have g1:Y.cell? ⟨gb,1,none⟩=some (.string v):=Yaa hgY rfl;have g2:Y.cell? ⟨hb,0,none⟩=some (.bool is):=Yaa hhY rfl;have g3:Y.cell? ⟨hb,1,none⟩=some (.string v):=Yaa hhY rfl;clear hA hgY hhY;go_wp2;go_ret;exact ⟨rfl,HA.out⟩
def Yc7 (m:Nat):ByteArray:=⟨#[35,UInt8.ofNat (m % 256),UInt8.ofNat (m / 256 % 256)]⟩
theorem Yma (m:Nat) (_hm:m≤100000000000000) (w:World):
 Calls prog 99 #[.int .i64 m] w fun e w'=>e=.returned (.string (Yc7 m))∧Below w.heap.size w w':=by
 have hcv:(convert 46 9 (.slice (some ⟨w.heap.size,0,none⟩) 3 3)).run prog (w.alloc (.cells #[.int .u8 35,.int .u8 ((m:Int) % 256),.int .u8 ((m:Int) / 256 % 256)] 5))=.ok (.string (Yc7 m)) (w.alloc (.cells #[.int .u8 35,.int .u8 ((m:Int) % 256),.int .u8 ((m:Int) / 256 % 256)] 5)):=by
  have hs:Lib.strCells (Yc7 m)=[.int .u8 35,.int .u8 ((m:Int) % 256),.int .u8 ((m:Int) / 256 % 256)]:=by
   simp [Lib.strCells,Yc7]
  exact Yq0 _ w.heap.size 0 3 (Yc7 m) (fun j u hu=>by
   rw [hs] at hu;rw [Nat.zero_add];exact Yaa (heap_alloc_new w _) (by simpa using hu))
 have hB:Below w.heap.size w (w.alloc (.cells #[.int .u8 35,.int .u8 ((m:Int) % 256),.int .u8 ((m:Int) / 256 % 256)] 5)):=(Below.refl _ _).alloc (Nat.le_refl _) _
 have HB:=Yh hB
 clear hB
 generalize Yc7 m=sm at hcv ⊢
 go_enter func99,ntmps99
 go_wp2
 go_ret
 exact ⟨rfl,HB.out⟩
def Yc8 (w:World) (v:Value) (n size:Nat) (item:List Value):Prop:=(v=.slice none 0 0∧n=0)∨∃ g cap,v=.slice (some ⟨g,0,none⟩) n cap∧g<w.heap.size∧∀ i,i<n→∀ j u,item[j]? = some u→w.cell? ⟨g,i*size+j,none⟩=some u
theorem Yc8.frame (h:Yc8 w v n size item) (hk:∀ g,v.ownBlock=some g→w'.heap[g]? = w.heap[g]?) (hs:w.heap.size≤w'.heap.size):Yc8 w' v n size item:=by
 rcases h with h | ⟨g,cap,h1,h2,h3⟩
 ·exact .inl h
 ·refine .inr ⟨g,cap,h1,by omega,fun i hi j u hu=>?_⟩
  exact (World.cell?_of_block (a:=⟨g,i*size+j,none⟩) (hk g (by rw [h1];rfl))).trans (h3 i hi j u hu)
theorem Yc8.slice (h:Yc8 w v n size item):∃ p cap,v=.slice p n cap:=by
 rcases h with ⟨h,h0⟩ | ⟨g,cap,h1,_⟩
 ·exact ⟨none,0,by rw [h,h0]⟩
 ·exact ⟨_,cap,h1⟩
theorem Yc8.lt (h:Yc8 w v n size item) (g:Nat) (hg:v.ownBlock=some g):g<w.heap.size:=by
 rcases h with ⟨h,_⟩ | ⟨g',cap,h1,h2,_⟩
 ·rw [h] at hg;cases hg
 ·rw [h1] at hg
  have:g'=g:=by simpa [Value.ownBlock] using hg
  omega
structure Yav where
 (vp ve vb:Value)
 (np ne nb mark:Nat)
def Yfv (m:Nat):List Value:=[.string (Yc7 m),.string (Yc7 m)]
def Ye1 (m:Nat):List Value:=[.int .i64 (-(m:Int)),.int .i64 0,.int .i64 0,.int .i64 0,.string (Yc7 m),.bool false,.string ByteArray.empty,.bool false,.string ByteArray.empty]
def Yg3 (m:Nat):List Value:=[.int .u8 ((m:Int) % 256)]
structure Ydl (w:World) (hb:Nat) (h:Yav):Prop where
 cell:w.heap[hb]? = some (.cells #[h.vp,h.ve,h.vb,.int .i64 (h.mark:Int)] 150 (0,0))
 rp:Yc8 w h.vp h.np 2 (Yfv h.mark)
 re:Yc8 w h.ve h.ne 9 (Ye1 h.mark)
 rb:Yc8 w h.vb h.nb 1 (Yg3 h.mark)
 small:h.np≤100000∧h.ne≤100000∧h.nb≤100000∧h.mark≤100000000000000
variable {h:Yav}
theorem Ydl.frame (H:Ydl w hb h) (hk:∀ g,(g=hb∨h.vp.ownBlock=some g∨h.ve.ownBlock=some g∨h.vb.ownBlock=some g)→w'.heap[g]? = w.heap[g]?) (hs:w.heap.size≤w'.heap.size):Ydl w' hb h:=
 ⟨(hk hb (.inl rfl)).trans H.cell,H.rp.frame (fun g hg=>hk g (.inr (.inl hg))) hs,H.re.frame (fun g hg=>hk g (.inr (.inr (.inl hg)))) hs,H.rb.frame (fun g hg=>hk g (.inr (.inr (.inr hg)))) hs,H.small⟩
theorem Ydl.below (H:Ydl w hb h) (hb':Below w.heap.size w w'):Ydl w' hb h:=
 H.frame (fun g hg=>hb'.block g (by
  rcases hg with rfl | hg | hg | hg
  ·exact Yaz H.cell
  ·exact H.rp.lt g hg
  ·exact H.re.lt g hg
  ·exact H.rb.lt g hg)) hb'.size
theorem Y4g (w:World) (hb:Nat) (h:Yav) (H:Ydl w hb h):
 Calls prog 66 #[.pointer (some ⟨hb,0,none⟩)] w fun e w'=>e=.returned (.bool true)∧Below w.heap.size w w':=by
 obtain ⟨s1,s2,s3,s4⟩:=H.small
 have KS:=Yh (Yma h.mark s4 w)
 have HH:Hid (∀ W,Below w.heap.size w W→Ydl W hb h):=fun W hW=>H.below hW
 have c3:w.cell? ⟨hb,3,none⟩=some (.int .i64 (h.mark:Int)):=Yaa H.cell rfl
 clear H
 obtain ⟨vp,ve,vb,np,ne,nb,m⟩:=h
 simp only at s1 s2 s3 s4 KS c3
 go_enter func66,ntmps66
 go_wp2_with (first
  | (go_at_call 99;go_must (
   refine KS.out.mono ?_;rintro e w1 ⟨rfl,hb1⟩;have HB1:=Yh hb1;obtain ⟨hc,hp,he,hbb,_⟩:=HH.out w1 hb1;simp only at hc hp he hbb;obtain ⟨pp,pc,rfl⟩:=hp.slice;obtain ⟨ep,ec,rfl⟩:=he.slice;obtain ⟨bp,bc,rfl⟩:=hbb.slice;have d0:w1.cell? ⟨hb,0,none⟩=some (.slice pp np pc):=Yaa hc rfl;have d1:w1.cell? ⟨hb,1,none⟩=some (.slice ep ne ec):=Yaa hc rfl;have d2:w1.cell? ⟨hb,2,none⟩=some (.slice bp nb bc):=Yaa hc rfl;have d3:w1.cell? ⟨hb,3,none⟩=some (.int .i64 (m:Int)):=Yaa hc rfl;have HP:=Yh hp;have HE:=Yh he;have HBB:=Yh hbb;clear hb1 hc hp he hbb)))
 go_loopw [4] (fun i wr=>∃ k:Nat,k≤np∧i=.int .i64 k∧wr=w1) (fun i _=>np - (intOf i).toNat)
 case atStart=>exact ⟨0,by omega,rfl,rfl⟩
 case round=>
  obtain ⟨k,hk,rfl,rfl⟩:=hrel;by_cases hlt:k<np
  ·have hlt':(k:Int)<(np:Int):=by omega
   obtain ⟨g,cap,e1,-,e2⟩:=HP.out.resolve_left (fun e=>by omega);simp only [Value.slice.injEq] at e1;obtain ⟨rfl,-,rfl⟩:=e1;have a0:=e2 k hlt 0 (.string (Yc7 m)) rfl;have a1:=e2 k hlt 1 (.string (Yc7 m)) rfl;rw [Nat.add_zero] at a0;clear e2;generalize Yc7 m=sm at *;go_wp2;exact ⟨⟨k+1,by omega,by simp,by first | rfl | trivial⟩,by simp [intOf];omega⟩
  ·have hlt':¬(k:Int)<(np:Int):=by omega
   go_wp2;obtain ⟨wa,hwa⟩:∃ wa,wa=wr:=⟨_,rfl⟩;subst hwa;go_loopw [5] (fun i w2=>∃ k:Nat,k≤ne∧i=.int .i64 k∧Below w.heap.size w w2∧(∀ x:Nat,w2.heap[x]? = wa.heap[x]?)) (fun i _=>ne - (intOf i).toNat)
   case atStart=>exact ⟨0,by omega,rfl,HB1.out,fun _=>rfl⟩
   case round=>
    obtain ⟨k2,hk2,rfl,hB2,hsame⟩:=hrel;have HB2:=Yh hB2;have HSA:=Yh hsame;have f1:wr.cell? ⟨hb,1,none⟩=some (.slice ep ne ec):=(World.cell?_of_block (a:=⟨hb,1,none⟩) (hsame hb)).trans d1;have f2:wr.cell? ⟨hb,2,none⟩=some (.slice bp nb bc):=(World.cell?_of_block (a:=⟨hb,2,none⟩) (hsame hb)).trans d2;have f3:wr.cell? ⟨hb,3,none⟩=some (.int .i64 (m:Int)):=(World.cell?_of_block (a:=⟨hb,3,none⟩) (hsame hb)).trans d3;have hwn:IntKind.i64.wrap (-(m:Int)) = -(m:Int):=by rw [IntKind.wrap_i64];omega
    by_cases hlt2:k2<ne
    ·have hlt2':(k2:Int)<(ne:Int):=by omega
     obtain ⟨g,cap,e1,-,e2⟩:=HE.out.resolve_left (fun e=>by omega);simp only [Value.slice.injEq] at e1;obtain ⟨rfl,-,rfl⟩:=e1;have a0:wr.cell? ⟨g,k2*9,none⟩=some (.int .i64 (-(m:Int))):=(World.cell?_of_block (a:=⟨g,k2*9,none⟩) (hsame g)).trans (e2 k2 hlt2 0 _ rfl);have a1:wr.cell? ⟨g,k2*9+1,none⟩=some (.int .i64 0):=(World.cell?_of_block (a:=⟨g,k2*9+1,none⟩) (hsame g)).trans (e2 k2 hlt2 1 _ rfl);have a2:wr.cell? ⟨g,k2*9+2,none⟩=some (.int .i64 0):=(World.cell?_of_block (a:=⟨g,k2*9+2,none⟩) (hsame g)).trans (e2 k2 hlt2 2 _ rfl);have a3:wr.cell? ⟨g,k2*9+3,none⟩=some (.int .i64 0):=(World.cell?_of_block (a:=⟨g,k2*9+3,none⟩) (hsame g)).trans (e2 k2 hlt2 3 _ rfl);have a4:wr.cell? ⟨g,k2*9+4,none⟩=some (.string (Yc7 m)):=(World.cell?_of_block (a:=⟨g,k2*9+4,none⟩) (hsame g)).trans (e2 k2 hlt2 4 _ rfl);have a5:wr.cell? ⟨g,k2*9+5,none⟩=some (.bool false):=(World.cell?_of_block (a:=⟨g,k2*9+5,none⟩) (hsame g)).trans (e2 k2 hlt2 5 _ rfl);have a6:wr.cell? ⟨g,k2*9+6,none⟩=some (.string ByteArray.empty):=(World.cell?_of_block (a:=⟨g,k2*9+6,none⟩) (hsame g)).trans (e2 k2 hlt2 6 _ rfl);have a7:wr.cell? ⟨g,k2*9+7,none⟩=some (.bool false):=(World.cell?_of_block (a:=⟨g,k2*9+7,none⟩) (hsame g)).trans (e2 k2 hlt2 7 _ rfl);have a8:wr.cell? ⟨g,k2*9+8,none⟩=some (.string ByteArray.empty):=(World.cell?_of_block (a:=⟨g,k2*9+8,none⟩) (hsame g)).trans (e2 k2 hlt2 8 _ rfl);clear e2 hsame hB2 d0 d1 d2 d3;generalize Yc7 m=sm at *;go_upto_region 10 with fail
     go_region_held3 (fun w'=>w'.cell? ⟨hb,1,none⟩=some (.slice (some ⟨g,0,none⟩) ne ec)∧w'.cell? ⟨hb,3,none⟩=some (.int .i64 (m:Int))∧w'.cell? ⟨g,k2*9,none⟩=some (.int .i64 (-(m:Int)))∧w'.cell? ⟨g,k2*9+1,none⟩=some (.int .i64 0)∧w'.cell? ⟨g,k2*9+2,none⟩=some (.int .i64 0)∧w'.cell? ⟨g,k2*9+3,none⟩=some (.int .i64 0)∧w'.cell? ⟨g,k2*9+4,none⟩=some (.string sm)∧w'.cell? ⟨g,k2*9+5,none⟩=some (.bool false)∧w'.cell? ⟨g,k2*9+6,none⟩=some (.string ByteArray.empty)∧w'.cell? ⟨g,k2*9+7,none⟩=some (.bool false)∧w'.cell? ⟨g,k2*9+8,none⟩=some (.string ByteArray.empty))
      (go_keep)
      (fail)
     all_goals
      go_wp2;exact ⟨⟨k2+1,by omega,by simp,HB2.out.drew,HSA.out⟩,by simp [intOf];omega⟩
    ·have hlt2':¬(k2:Int)<(ne:Int):=by omega
     clear hsame hB2 d0 d1 d2 d3;go_wp2;obtain ⟨wc,hwc⟩:∃ wc,wc=wr:=⟨_,rfl⟩;subst hwc;go_loopw [6] (fun i w2=>∃ k:Nat,k≤nb∧i=.int .i64 k∧Below w.heap.size w w2∧(∀ x:Nat,w2.heap[x]? = wa.heap[x]?)) (fun i _=>nb - (intOf i).toNat)
     case atStart=>exact ⟨0,by omega,rfl,HB2.out,HSA.out⟩
     case round=>
      obtain ⟨k3,hk3,rfl,hB3,hsame⟩:=hrel;have HB3:=Yh hB3;have HSA3:=Yh hsame;have hsc:∀ x:Nat,wr.heap[x]? = wc.heap[x]?:=fun x=>(hsame x).trans (HSA.out x).symm
      have i2:wr.cell? ⟨hb,2,none⟩=some (.slice bp nb bc):=(World.cell?_of_block (a:=⟨hb,2,none⟩) (hsc hb)).trans f2;have i3:wr.cell? ⟨hb,3,none⟩=some (.int .i64 (m:Int)):=(World.cell?_of_block (a:=⟨hb,3,none⟩) (hsc hb)).trans f3;by_cases hlt3:k3<nb
      ·have hlt3':(k3:Int)<(nb:Int):=by omega
       obtain ⟨g,cap,e1,-,e2⟩:=HBB.out.resolve_left (fun e=>by omega);simp only [Value.slice.injEq] at e1;obtain ⟨rfl,-,rfl⟩:=e1;have a0:wr.cell? ⟨g,k3,none⟩=some (.int .u8 ((m:Int) % 256)):=(World.cell?_of_block (a:=⟨g,k3,none⟩) (hsame g)).trans (by have:=e2 k3 hlt3 0 _ rfl;rw [Nat.add_zero,Nat.mul_one] at this;exact this);have hw8:IntKind.u8.wrap (m:Int)=(m:Int) % 256:=by simp [IntKind.wrap,IntKind.signed,IntKind.bits]
       clear e2 hsame hB3 f1 f2 f3 hsc;go_upto_region 15 with fail
       go_region_held3 (fun w'=>w'.cell? ⟨hb,2,none⟩=some (.slice (some ⟨g,0,none⟩) nb bc)∧w'.cell? ⟨hb,3,none⟩=some (.int .i64 (m:Int))∧w'.cell? ⟨g,k3,none⟩=some (.int .u8 ((m:Int) % 256)))
        (go_keep)
        (fail)
       all_goals
        go_wp2;exact ⟨⟨k3+1,by omega,by simp,HB3.out.drew,HSA3.out⟩,by simp [intOf];omega⟩
      ·have hlt3':¬(k3:Int)<(nb:Int):=by omega
       clear hsame hB3 f1 f2 f3 hsc;go_wp2;go_ret;exact ⟨rfl,HB3.out⟩
structure Yuh (w:World) (b:Nat) (v:Value) (hs:List (Nat×Yav)):Prop where
 cell:w.cell? ⟨b,0,none⟩=some v
 row:(v=.slice none 0 0∧hs=[])∨∃ g cap,v=.slice (some ⟨g,0,none⟩) hs.length cap∧∀ i x,hs[i]? = some x→w.cell? ⟨g,i,none⟩=some (.pointer (some ⟨x.1,0,none⟩))
 each:∀ x∈hs,Ydl w x.1 x.2
 few:hs.length≤100000000000000
theorem Y4h (w:World) (b:Nat) (v:Value) (hs:List (Nat×Yav)) (H:Yuh w b v hs):
 Calls prog 39 #[.pointer (some ⟨b,0,none⟩)] w fun e w'=>e=.returned (.bool true)∧Below w.heap.size w w':=by
 obtain ⟨N,hN⟩:∃ N,N=hs.length:=⟨_,rfl⟩
 have hfew:=H.few
 rw [←hN] at hfew
 obtain ⟨p,cap,hv⟩:∃ p cap,v=.slice p N cap:=by
  rcases H.row with ⟨h1,h2⟩ | ⟨g,cap,h1,_⟩
  ·exact ⟨none,0,by rw [h1,hN,h2];rfl⟩
  ·exact ⟨_,cap,by rw [h1,hN]⟩
 subst hv
 have HH:Hid (∀ W,Below w.heap.size w W→W.cell? ⟨b,0,none⟩=some (.slice p N cap)∧∀ i,i<N→∃ g hb h,p=some ⟨g,0,none⟩∧W.cell? ⟨g,i,none⟩=some (.pointer (some ⟨hb,0,none⟩))∧Ydl W hb h):=fun W hW=>by
  refine ⟨(hW.cell (World.block_lt_of_cell? w _ H.cell)).trans H.cell,fun i hi=>?_⟩;rcases H.row with ⟨_,h2⟩ | ⟨g,cap',h1,h2⟩
  ·rw [h2] at hN;simp at hN;omega
  ·have hi':i<hs.length:=by omega
   have h3:=h2 i hs[i] (List.getElem?_eq_getElem hi');simp only [Value.slice.injEq] at h1;exact ⟨g,hs[i].1,hs[i].2,h1.1,(hW.cell (World.block_lt_of_cell? w _ h3)).trans h3,(H.each _ (List.getElem_mem hi')).below hW⟩
 clear H hN
 go_enter func39,ntmps39
 go_wp2
 go_loopw [3] (fun i wr=>∃ k:Nat,k≤N∧i=.int .i64 k∧Below w.heap.size w wr) (fun i _=>N - (intOf i).toNat)
 case atStart=>exact ⟨0,by omega,rfl,Below.refl _ _⟩
 case round=>
  obtain ⟨k,hk,rfl,hB⟩:=hrel;obtain ⟨c0,hx⟩:=HH.out wr hB;have HB:=Yh hB;by_cases hlt:k<N
  ·have hlt':(k:Int)<(N:Int):=by omega
   obtain ⟨g,hb,h,rfl,c1,hh⟩:=hx k hlt;have KM:=Yh (Y4g wr hb h hh);clear hx hB hh;go_wp2_with (first
    | (go_at_call 66;go_must (
     refine KM.out.mono ?_;rintro e w1 ⟨rfl,hb1⟩;have HB1:Hid (Below w.heap.size w w1):=HB.out.trans (hb1.mono HB.out.size);clear hb1)))
   exact ⟨⟨k+1,by omega,by simp,HB1.out⟩,by simp [intOf];omega⟩
  ·have hlt':¬(k:Int)<(N:Int):=by omega
   clear hx hB;go_wp2;go_ret;exact ⟨rfl,HB.out⟩
def Yfw (ys:List Value) (size k:Nat) (item:List Value):Prop:=∀ i,i<k→∀ j u,item[j]? = some u→ys[i*size+j]? = some u
structure Yef (w W:World) (base:Nat) (e:TypeId) (size:Nat) (v:Value) (n k:Nat) (item:List Value):Prop where
 row:∃ ys,W.ownsRow base e size v n ys∧Yfw ys size k item
 off:∀ x,x<w.heap.size→v.ownBlock≠some x→W.heap[x]? = w.heap[x]?
 below:Below 0 w W
theorem Y4i {k:Nat} (h:Yef w W base 43 2 (.slice (some ⟨g,0,none⟩) n cap) n k [.string s,.string s]) (hk:k<n):Yef w ((W.setCell ⟨g,k*2,none⟩ (.string s)).setCell ⟨g,k*2+1,none⟩ (.string s)) base 43 2 (.slice (some ⟨g,0,none⟩) n cap) n (k+1) [.string s,.string s]:=by
 obtain ⟨⟨ys,h1,h2⟩,h3,h4⟩:=h;have hl:=h1.1;refine ⟨⟨_,Ydx (Ydx h1 (k*2) (.string s)) (k*2+1) (.string s),fun i hi j u hu=>?_⟩,fun x hx hn=>?_,(h4.setCell (p:=⟨g,k*2,none⟩) (by simp) _).setCell (p:=⟨g,k*2+1,none⟩) (by simp) _⟩
 ·have hj:j<2:=by have:=(List.getElem?_eq_some_iff.1 hu).1;simpa using this
  have hj2:j=0∨j=1:=by omega
  by_cases hik:i=k
  ·subst hik
   rcases hj2 with rfl | rfl
   ·rw [List.getElem?_set_ne (by omega),Nat.add_zero,List.getElem?_set_self (by omega)];simpa using hu
   ·rw [List.getElem?_set_self (by rw [List.length_set];omega)];simpa using hu
  ·rw [List.getElem?_set_ne (by omega),List.getElem?_set_ne (by omega)]
   exact h2 i (by omega) j u hu
 ·have hne:x≠g:=fun e=>hn (by rw [e];rfl)
  exact (Below.heap_setCell _ _ _ _ hne).trans ((Below.heap_setCell _ _ _ _ hne).trans (h3 x hx hn))
theorem Y4j (w:World) (hb m np base:Nat) (v:Value) (xs:List Value) (hm:m≤100000000000000) (hc:w.heap[hb]? = some (.cells #[v,.slice none 0 0,.slice none 0 0,.int .i64 (m:Int)] 150 (0,0))) (ho:w.ownsRow base 43 2 v np xs) (hnp:np≤100000) (hbv:v.ownBlock≠some hb):
 Calls prog 126 #[.pointer (some ⟨hb,0,none⟩)] w fun e w'=>e=.returned (.tuple #[])∧Yef w w' base 43 2 v np np (Yfv m):=by
 have KS:=Yh (Yma m hm w)
 have hhb:hb<w.heap.size:=Yaz hc
 obtain ⟨p,cap,rfl,_⟩:=Ya6 ho
 have c3:w.cell? ⟨hb,3,none⟩=some (.int .i64 (m:Int)):=Yaa hc rfl
 have HO:=Yh ho
 have HC:=Yh hc
 have HI:Hid (∀ W,Below w.heap.size w W→Yef w W base 43 2 (.slice p np cap) np 0 (Yfv m)):=fun W hW=>⟨⟨xs,Ybe ho hW (fun g hg=>(ho.lt g hg).2),fun i hi=>by omega⟩,fun x hx _=>hW.block x hx,hW.mono (Nat.zero_le _)⟩
 clear ho hc
 unfold Yfv at HI ⊢
 generalize Yc7 m=sm at KS HI ⊢
 go_enter func126,ntmps126
 go_wp2_with (first
  | (go_at_call 99;go_must (
   refine KS.out.mono ?_;rintro e w1 ⟨rfl,hb1⟩;have HM1:=Yh (HI.out w1 hb1);clear hb1)))
 go_loopw [3] (fun i wr=>∃ k:Nat,k≤np∧i=.int .i64 k∧Yef w wr base 43 2 (.slice p np cap) np k [.string sm,.string sm]) (fun i _=>np - (intOf i).toNat)
 case atStart=>exact ⟨0,by omega,rfl,HM1.out⟩
 case round=>
  obtain ⟨k,hk,rfl,hM⟩:=hrel;have HM:=Yh hM;have hcr:wr.heap[hb]? = _:=(hM.off hb hhb hbv).trans HC.out;have d0:wr.cell? ⟨hb,0,none⟩=some (.slice p np cap):=Yaa hcr rfl;have d1:wr.cell? ⟨hb,1,none⟩=some (.slice none 0 0):=Yaa hcr rfl;have d2:wr.cell? ⟨hb,2,none⟩=some (.slice none 0 0):=Yaa hcr rfl;by_cases hlt:k<np
  ·have hlt':(k:Int)<(np:Int):=by omega
   obtain ⟨ys,hr,_⟩:=hM.row;obtain ⟨g,cap',he⟩:=Ybn hr (by omega);simp only [Value.slice.injEq] at he;obtain ⟨rfl,-,rfl⟩:=he;have hys:ys.length=np*2:=hr.1;have a0:=Yal hr (List.getElem?_eq_getElem (show k*2<ys.length by omega));have a1:=Yal hr (List.getElem?_eq_getElem (show k*2+1<ys.length by omega));have hfz:∀ j,wr.frozen? ⟨g,j,none⟩=false:=fun j=>by
    rcases hr.2 with ⟨h1,_⟩ | ⟨g',cap',cur,h1,_,h3,_⟩
    ·cases h1
    ·simp only [Value.slice.injEq,Option.some.injEq,Addr.mk.injEq] at h1
     obtain ⟨⟨rfl,_⟩,_⟩:=h1;exact Yah j h3
   have z0:=hfz (k*2);have z1:=hfz (k*2+1);have hgn:g≠hb:=fun e=>hbv (by rw [e];rfl)
   generalize ys[k*2]=y0 at a0;generalize ys[k*2+1]=y1 at a1;clear hM hr hfz hcr hys;go_wp2;exact ⟨⟨k+1,by omega,by simp,Y4i HM.out hlt⟩,by simp [intOf];omega⟩
  ·have hlt':¬(k:Int)<(np:Int):=by omega
   obtain rfl:k=np:=by omega
   clear hM hcr;go_wp2;obtain ⟨wa,hwa⟩:∃ wa,wa=wr:=⟨_,rfl⟩;subst hwa;go_loopw [4] (fun i w2=>i=.int .i64 0∧w2=wa) (fun _ _=>0)
   case atStart=>exact ⟨rfl,rfl⟩
   case round=>
    obtain ⟨rfl,rfl⟩:=hrel;go_wp2;obtain ⟨wc,hwc⟩:∃ wc,wc=wr:=⟨_,rfl⟩;subst hwc;go_loopw [5] (fun i w2=>i=.int .i64 0∧w2=wc) (fun _ _=>0)
    case atStart=>exact ⟨rfl,rfl⟩
    case round=>
     obtain ⟨rfl,rfl⟩:=hrel;go_wp2;go_end0;exact ⟨rfl,HM.out⟩
theorem Yg4 (h:i<ys.length):(ys.set i v)[i]? = some v:=List.getElem?_set_self h
theorem Ybm {j:Nat} {u:Value} (h:ys[i]? = some u) (hij:j≠i):(ys.set j v)[i]? = some u:=by rw [List.getElem?_set_ne hij];exact h
theorem Yef.drew {k:Nat} (h:Yef w W base e size v n k item):Yef w W.drew base e size v n k item:=⟨h.row,h.off,h.below.drew⟩
theorem Y4k {k:Nat} (h:Yef w W base 152 9 (.slice (some ⟨g,0,none⟩) n cap) n k [.int .i64 (-(m:Int)),.int .i64 0,.int .i64 0,.int .i64 0,.string s,.bool false,.string ByteArray.empty,.bool false,.string ByteArray.empty]) (hk:k<n):Yef w (((((((((W.setCell ⟨g,k*9,none⟩ (.int .i64 (-(m:Int)))).setCell ⟨g,k*9+1,none⟩ (.int .i64 0)).setCell ⟨g,k*9+2,none⟩ (.int .i64 0)).setCell ⟨g,k*9+3,none⟩ (.int .i64 0)).setCell ⟨g,k*9+4,none⟩ (.string s)).setCell ⟨g,k*9+5,none⟩ (.bool false)).setCell ⟨g,k*9+6,none⟩ (.string ByteArray.empty)).setCell ⟨g,k*9+7,none⟩ (.bool false)).setCell ⟨g,k*9+8,none⟩ (.string ByteArray.empty)) base 152 9 (.slice (some ⟨g,0,none⟩) n cap) n (k+1) [.int .i64 (-(m:Int)),.int .i64 0,.int .i64 0,.int .i64 0,.string s,.bool false,.string ByteArray.empty,.bool false,.string ByteArray.empty]:=by
 obtain ⟨⟨ys,h1,h2⟩,h3,h4⟩:=h;have hl:=h1.1;refine ⟨⟨_,(Ydx (Ydx (Ydx (Ydx (Ydx (Ydx (Ydx (Ydx (Ydx h1 (k*9) (.int .i64 (-(m:Int)))) (k*9+1) (.int .i64 0)) (k*9+2) (.int .i64 0)) (k*9+3) (.int .i64 0)) (k*9+4) (.string s)) (k*9+5) (.bool false)) (k*9+6) (.string ByteArray.empty)) (k*9+7) (.bool false)) (k*9+8) (.string ByteArray.empty)),fun i hi j u hu=>?_⟩,fun x hx hn=>?_,(((((((((h4.setCell (p:=⟨g,k*9,none⟩) (by simp) _).setCell (p:=⟨g,k*9+1,none⟩) (by simp) _).setCell (p:=⟨g,k*9+2,none⟩) (by simp) _).setCell (p:=⟨g,k*9+3,none⟩) (by simp) _).setCell (p:=⟨g,k*9+4,none⟩) (by simp) _).setCell (p:=⟨g,k*9+5,none⟩) (by simp) _).setCell (p:=⟨g,k*9+6,none⟩) (by simp) _).setCell (p:=⟨g,k*9+7,none⟩) (by simp) _).setCell (p:=⟨g,k*9+8,none⟩) (by simp) _)⟩
 ·have hj:j<9:=by have:=(List.getElem?_eq_some_iff.1 hu).1;simpa using this
  by_cases hik:i=k
  ·subst hik
   have hj9:j=0∨j=1∨j=2∨j=3∨j=4∨j=5∨j=6∨j=7∨j=8:=by omega
   rcases hj9 with rfl | rfl | rfl | rfl | rfl | rfl | rfl | rfl | rfl <;> simp only [List.getElem?_cons_zero,List.getElem?_cons_succ,Option.some.injEq] at hu <;> subst hu
   ·exact Ybm (Ybm (Ybm (Ybm (Ybm (Ybm (Ybm (Ybm (Yg4 (by first | omega | (simp only [List.length_set];omega))) (by omega)) (by omega)) (by omega)) (by omega)) (by omega)) (by omega)) (by omega)) (by omega)
   ·exact Ybm (Ybm (Ybm (Ybm (Ybm (Ybm (Ybm (Yg4 (by first | omega | (simp only [List.length_set];omega))) (by omega)) (by omega)) (by omega)) (by omega)) (by omega)) (by omega)) (by omega)
   ·exact Ybm (Ybm (Ybm (Ybm (Ybm (Ybm (Yg4 (by first | omega | (simp only [List.length_set];omega))) (by omega)) (by omega)) (by omega)) (by omega)) (by omega)) (by omega)
   ·exact Ybm (Ybm (Ybm (Ybm (Ybm (Yg4 (by first | omega | (simp only [List.length_set];omega))) (by omega)) (by omega)) (by omega)) (by omega)) (by omega)
   ·exact Ybm (Ybm (Ybm (Ybm (Yg4 (by first | omega | (simp only [List.length_set];omega))) (by omega)) (by omega)) (by omega)) (by omega)
   ·exact Ybm (Ybm (Ybm (Yg4 (by first | omega | (simp only [List.length_set];omega))) (by omega)) (by omega)) (by omega)
   ·exact Ybm (Ybm (Yg4 (by first | omega | (simp only [List.length_set];omega))) (by omega)) (by omega)
   ·exact Ybm (Yg4 (by first | omega | (simp only [List.length_set];omega))) (by omega)
   ·exact Yg4 (by first | omega | (simp only [List.length_set];omega))
  ·refine Ybm (Ybm (Ybm (Ybm (Ybm (Ybm (Ybm (Ybm (Ybm (h2 i (by omega) j u hu) (by omega)) (by omega)) (by omega)) (by omega)) (by omega)) (by omega)) (by omega)) (by omega)) (by omega)
 ·have hne:x≠g:=fun e=>hn (by rw [e];rfl)
  exact ((Below.heap_setCell _ _ _ _ hne).trans ((Below.heap_setCell _ _ _ _ hne).trans ((Below.heap_setCell _ _ _ _ hne).trans ((Below.heap_setCell _ _ _ _ hne).trans ((Below.heap_setCell _ _ _ _ hne).trans ((Below.heap_setCell _ _ _ _ hne).trans ((Below.heap_setCell _ _ _ _ hne).trans ((Below.heap_setCell _ _ _ _ hne).trans ((Below.heap_setCell _ _ _ _ hne).trans (h3 x hx hn))))))))))
theorem Y4l (w:World) (hb m ne base:Nat) (v:Value) (xs:List Value) (hm:m≤100000000000000) (hc:w.heap[hb]? = some (.cells #[.slice none 0 0,v,.slice none 0 0,.int .i64 (m:Int)] 150 (0,0))) (ho:w.ownsRow base 152 9 v ne xs) (hne:ne≤100000) (hbv:v.ownBlock≠some hb):
 Calls prog 126 #[.pointer (some ⟨hb,0,none⟩)] w fun e w'=>e=.returned (.tuple #[])∧Yef w w' base 152 9 v ne ne (Ye1 m):=by
 have KS:=Yh (Yma m hm w)
 have hhb:hb<w.heap.size:=Yaz hc
 obtain ⟨p,cap,rfl,_⟩:=Ya6 ho
 have c3:w.cell? ⟨hb,3,none⟩=some (.int .i64 (m:Int)):=Yaa hc rfl
 have HC:=Yh hc
 have HI:Hid (∀ W,Below w.heap.size w W→Yef w W base 152 9 (.slice p ne cap) ne 0 (Ye1 m)):=fun W hW=>⟨⟨xs,Ybe ho hW (fun g hg=>(ho.lt g hg).2),fun i hi=>by omega⟩,fun x hx _=>hW.block x hx,hW.mono (Nat.zero_le _)⟩
 clear ho hc
 unfold Ye1 at HI ⊢
 generalize Yc7 m=sm at KS HI ⊢
 have hwn:IntKind.i64.wrap (-(m:Int)) = -(m:Int):=by rw [IntKind.wrap_i64];omega
 go_enter func126,ntmps126
 go_wp2_with (first
  | (go_at_call 99;go_must (
   refine KS.out.mono ?_;rintro e w1 ⟨rfl,hb1⟩;have HM1:=Yh (HI.out w1 hb1);have d0:w1.cell? ⟨hb,0,none⟩=some (.slice none 0 0):=Yaa ((hb1.block hb hhb).trans HC.out) rfl;clear hb1)))
 go_loopw [3] (fun i w2=>i=.int .i64 0∧w2=w1) (fun _ _=>0)
 case atStart=>exact ⟨rfl,rfl⟩
 case round=>
  obtain ⟨rfl,rfl⟩:=hrel;go_wp2;obtain ⟨wa,hwa⟩:∃ wa,wa=wr:=⟨_,rfl⟩;subst hwa;clear d0;go_loopw [4] (fun i wr=>∃ k:Nat,k≤ne∧i=.int .i64 k∧Yef w wr base 152 9 (.slice p ne cap) ne k [.int .i64 (-(m:Int)),.int .i64 0,.int .i64 0,.int .i64 0,.string sm,.bool false,.string ByteArray.empty,.bool false,.string ByteArray.empty]) (fun i _=>ne - (intOf i).toNat)
  case atStart=>exact ⟨0,by omega,rfl,HM1.out⟩
  case round=>
   obtain ⟨k,hk,rfl,hM⟩:=hrel;have HM:=Yh hM;have hcr:wr.heap[hb]? = _:=(hM.off hb hhb hbv).trans HC.out;have d1:wr.cell? ⟨hb,1,none⟩=some (.slice p ne cap):=Yaa hcr rfl;have d2:wr.cell? ⟨hb,2,none⟩=some (.slice none 0 0):=Yaa hcr rfl;have d3:wr.cell? ⟨hb,3,none⟩=some (.int .i64 (m:Int)):=Yaa hcr rfl;by_cases hlt:k<ne
   ·have hlt':(k:Int)<(ne:Int):=by omega
    obtain ⟨ys,hr,_⟩:=hM.row;obtain ⟨g,cap',he⟩:=Ybn hr (by omega);simp only [Value.slice.injEq] at he;obtain ⟨rfl,-,rfl⟩:=he;have hys:ys.length=ne*9:=hr.1;have a0:=Yal hr (List.getElem?_eq_getElem (show k*9<ys.length by omega));generalize ys[k*9]=y0 at a0;have a1:=Yal hr (List.getElem?_eq_getElem (show k*9+1<ys.length by omega));generalize ys[k*9+1]=y1 at a1;have a2:=Yal hr (List.getElem?_eq_getElem (show k*9+2<ys.length by omega));generalize ys[k*9+2]=y2 at a2;have a3:=Yal hr (List.getElem?_eq_getElem (show k*9+3<ys.length by omega));generalize ys[k*9+3]=y3 at a3;have a4:=Yal hr (List.getElem?_eq_getElem (show k*9+4<ys.length by omega));generalize ys[k*9+4]=y4 at a4;have a5:=Yal hr (List.getElem?_eq_getElem (show k*9+5<ys.length by omega));generalize ys[k*9+5]=y5 at a5;have a6:=Yal hr (List.getElem?_eq_getElem (show k*9+6<ys.length by omega));generalize ys[k*9+6]=y6 at a6;have a7:=Yal hr (List.getElem?_eq_getElem (show k*9+7<ys.length by omega));generalize ys[k*9+7]=y7 at a7;have a8:=Yal hr (List.getElem?_eq_getElem (show k*9+8<ys.length by omega));generalize ys[k*9+8]=y8 at a8;have hfz:∀ j,wr.frozen? ⟨g,j,none⟩=false:=fun j=>by
     rcases hr.2 with ⟨h1,_⟩ | ⟨g',cap',cur,h1,_,h3,_⟩
     ·cases h1
     ·simp only [Value.slice.injEq,Option.some.injEq,Addr.mk.injEq] at h1
      obtain ⟨⟨rfl,_⟩,_⟩:=h1;exact Yah j h3
    have z0:=hfz (k*9);have z1:=hfz (k*9+1);have z2:=hfz (k*9+2);have z3:=hfz (k*9+3);have z4:=hfz (k*9+4);have z5:=hfz (k*9+5);have z6:=hfz (k*9+6);have z7:=hfz (k*9+7);have z8:=hfz (k*9+8);have hgn:g≠hb:=fun e=>hbv (by rw [e];rfl)
    have hgn':hb≠g:=fun e=>hgn e.symm
    clear hM hr hfz hcr hys;go_upto_region 8 with fail
    go_region_held3 (fun w'=>w'.cell? ⟨hb,1,none⟩=some (.slice (some ⟨g,0,none⟩) ne cap)∧w'.cell? ⟨hb,3,none⟩=some (.int .i64 (m:Int)))
     (go_keep)
     (fail)
    all_goals
     have HS:=Yh (Y4k HM.out hlt).drew;go_wp2;exact ⟨⟨k+1,by omega,by simp,HS.out⟩,by simp [intOf];omega⟩
   ·have hlt':¬(k:Int)<(ne:Int):=by omega
    obtain rfl:k=ne:=by omega
    clear hM hcr;go_wp2;obtain ⟨wc,hwc⟩:∃ wc,wc=wr:=⟨_,rfl⟩;subst hwc;go_loopw [5] (fun i w2=>i=.int .i64 0∧w2=wc) (fun _ _=>0)
    case atStart=>exact ⟨rfl,rfl⟩
    case round=>
     obtain ⟨rfl,rfl⟩:=hrel;go_wp2;go_end0;exact ⟨rfl,HM.out⟩
theorem Y4m (m:Int) (hm:m=0∨m=1) (w:World):
 Calls prog 59 #[.int .i64 m] w fun e w'=>e=.returned (.tuple #[.pointer (some ⟨w.heap.size,0,none⟩),.int .i64 0])∧w.alloc (.cells (Yc6 ⟨m,false,false,0,0⟩ ⟨.slice none 0 0,.slice none 0 0,.slice none 0 0,.slice none 0 0⟩) 119)=w':=by
 rcases hm with rfl | rfl
 all_goals
  go_enter func59,ntmps59;go_wp2;go_ret2;exact ⟨rfl,rfl⟩
theorem Y4n (m:Int) (k:Bool) (hm:m=if k then 0 else 1) (w:World):Yc1 (w.alloc (.cells (Yc6 ⟨m,false,false,0,0⟩ ⟨.slice none 0 0,.slice none 0 0,.slice none 0 0,.slice none 0 0⟩) 119)) w.heap.size k Sp.empty (fun x=>x=w.heap.size) 0:=by
 have hmod:∀ a x,Yai w.heap.size ⟨.slice none 0 0,.slice none 0 0,.slice none 0 0,.slice none 0 0⟩ [] a=some x→a=.mod∧x=w.heap.size:=by
  intro a x ha
  cases a using Ybs.elim <;> simp [Yai,Value.ownBlock] at ha
  exact ⟨rfl,ha.symm⟩
 refine ⟨⟨m,false,false,0,0⟩,⟨.slice none 0 0,.slice none 0 0,.slice none 0 0,.slice none 0 0⟩,[],[],[],[],⟨heap_alloc_new _ _,World.ownsRow_nil _ _ _ _,(fun p hp=>by cases hp),World.ownsRow_nil _ _ _ _,World.ownsRow_nil _ _ _ _,World.ownsRow_nil _ _ _ _,fun a b x ha hb=>by rw [(hmod a x ha).1,(hmod b x hb).1],fun a x _=>⟨(fun e=>by cases e),(fun e=>by cases e)⟩⟩,Y3f k _ hm rfl ⟨rfl,rfl⟩,fun x hx=>?_,fun x hx=>by rw [hx];simp⟩;rcases hx with ⟨a,ha⟩ | hx | hx
 ·exact (hmod a x ha).2
 ·cases hx
 ·cases hx
theorem Y4o (w:World) (va vb:Value) (ps:Yaf) (ba bb:Nat) (ha:w.ownsRow ba 43 2 va ps.length (Yad ps)) (hb:w.ownsRow bb 43 2 vb ps.length (Yad ps)) (hl:ps.length≤100000):
 Calls prog 87 #[va,vb] w fun e w'=>e=.returned (.bool true)∧Below w.heap.size w w':=by
 obtain ⟨pa,ca,rfl,_⟩:=Ya6 ha
 obtain ⟨pb,cb,rfl,_⟩:=Ya6 hb
 have HA:=Yh ha
 have HB:=Yh hb
 clear ha hb
 obtain ⟨N,hN⟩:∃ N,N=ps.length:=⟨_,rfl⟩
 have HN:=Yh hN
 rw [←hN] at HA HB hl ⊢
 clear hN
 go_enter func87,ntmps87
 go_wp2
 go_loopw [5] (fun i wr=>∃ k:Nat,k≤N∧i=.int .i64 k∧Below w.heap.size w wr∧∀ x:Nat,wr.heap[x]? = w.heap[x]?) (fun i _=>N - (intOf i).toNat)
 case atStart=>exact ⟨0,by omega,rfl,Below.refl _ _,fun _=>rfl⟩
 case round=>
  obtain ⟨k,hk,rfl,hB,hs⟩:=hrel;have HBw:=Yh hB;have HSW:=Yh hs;by_cases hlt:k<N
  ·have hlt':(k:Int)<(N:Int):=by omega
   obtain ⟨ga,ca',e1⟩:=Ybn HA.out (by omega);simp only [Value.slice.injEq] at e1;obtain ⟨rfl,-,rfl⟩:=e1;obtain ⟨gb,cb',e2⟩:=Ybn HB.out (by omega);simp only [Value.slice.injEq] at e2;obtain ⟨rfl,-,rfl⟩:=e2;have hkp:k<ps.length:=by have:=HN.out;omega
   obtain ⟨q0,q1⟩:=Ye2 ps k ps[k] (List.getElem?_eq_getElem hkp);have a0:wr.cell? ⟨ga,k*2,none⟩=some (.string ps[k].1):=(World.cell?_of_block (a:=⟨ga,k*2,none⟩) (hs ga)).trans (Yal HA.out q0);have a1:wr.cell? ⟨ga,k*2+1,none⟩=some (.string ps[k].2):=(World.cell?_of_block (a:=⟨ga,k*2+1,none⟩) (hs ga)).trans (Yal HA.out q1);have b0:wr.cell? ⟨gb,k*2,none⟩=some (.string ps[k].1):=(World.cell?_of_block (a:=⟨gb,k*2,none⟩) (hs gb)).trans (Yal HB.out q0);have b1:wr.cell? ⟨gb,k*2+1,none⟩=some (.string ps[k].2):=(World.cell?_of_block (a:=⟨gb,k*2+1,none⟩) (hs gb)).trans (Yal HB.out q1);clear hs hB q0 q1;generalize ps[k].1=s0 at a0 b0;generalize ps[k].2=s1 at a1 b1;go_upto_region 6 with fail
   go_region_held3 (fun w'=>w'.cell? ⟨ga,k*2,none⟩=some (.string s0)∧w'.cell? ⟨ga,k*2+1,none⟩=some (.string s1)∧w'.cell? ⟨gb,k*2,none⟩=some (.string s0)∧w'.cell? ⟨gb,k*2+1,none⟩=some (.string s1))
    (go_keep)
    (fail)
   all_goals
    go_wp2;exact ⟨⟨k+1,by omega,by simp,HBw.out.drew,HSW.out⟩,by simp [intOf];omega⟩
  ·have hlt':¬(k:Int)<(N:Int):=by omega
   clear hs hB;go_wp2;go_ret;exact ⟨rfl,HBw.out⟩
theorem Ykt (w:World) (t ty:TypeId) (base:Nat) (e:TypeId) (i:TypeInfo) (z:Value) (size bytes:Nat) (ht:prog.underlying t=some (.slice e)) (hi:prog.info? e=some i) (hz:i.zero=some z) (hsize:i.size=size) (hby:i.bytes=bytes) (hzs:z.cells.size=size) (hsz:0<size)
 (v:Value) (n:Nat) (xs:List Value) (hown:w.ownsRow base e size v n xs) (ad:Addr) (c:Nat) (news:List Value) (hl:news.length=1*size) (hnews:∀ j u,news[j]? = some u→w.cell? (ad.add j)=some u) (h1:∀ u∈news,u.oneCell'=true)
 (h63:n+1≤maxLen) (hbytes:(n+1)*bytes≤140737488355328) (hbase:base≤w.heap.size):
 ∃ g cap w',(Builtin.append_ #[t,t] ty #[v,.slice (some ad) 1 c]).run prog w=.ok (.slice (some ⟨g,0,none⟩) (n+1) cap) w'∧w'.ownsRow base e size (.slice (some ⟨g,0,none⟩) (n+1) cap) (n+1) (xs ++ news)∧w.grownBy w' v.ownBlock∧(v.ownBlock=some g∨(g=w.heap.size∧∀ k,k<w.heap.size→w'.heap[k]? = w.heap[k]?)):=by
 obtain ⟨g,cap,w',hr,h2,h3,h4,h5⟩:=run_append_lies (P:=prog) w t ty base e i z size bytes ht hi hz hsize hby hzs hsz v n xs hown ad 1 c news hl hnews h1 (by omega) h63 hbytes hbase _ rfl
 refine ⟨g,cap,w',hr,h2,h3,?_⟩
 rcases h4 with h4 | h4
 ·exact .inl h4
 ·refine .inr ⟨h4,fun k hk=>?_⟩
  by_cases hkv:some k=v.ownBlock
  ·subst hsize
   subst hby;rcases hown.2 with ⟨rfl,_⟩ | ⟨g0,cap0,cur,rfl,hbg,hg,hnc,hcm,hcs,htake⟩
   ·cases hkv
   ·by_cases hroom:n+1≤cap0
    ·have hfit:n*i.size+news.length≤cur.size:=by rw [hl,hcs,←Nat.add_mul];exact Nat.mul_le_mul_right _ hroom
     have hr':=run_append_room (P:=prog) w t ty e i ht hi g0 n cap0 cur hg ad 1 c news hl hnews h1 hroom hfit;rw [hr] at hr';simp only [Result.ok.injEq,Value.slice.injEq,Option.some.injEq,Addr.mk.injEq] at hr';have hgg:g=g0:=hr'.1.1.1;have:=Yaz hg;omega
    ·have holds:∀ j u,xs[j]? = some u→w.cell? ((⟨g0,0,none⟩:Addr).add j)=some u:=hown.cells (g:=g0) rfl
     have hr':=run_append_grow (P:=prog) w t ty e i z ht hi hz ⟨g0,0,none⟩ n cap0 xs hown.1 holds ad 1 c news hl hnews (by omega) (by simp only [maxLen] at h63;omega) (growslice_fits (by omega) hbytes);rw [hr] at hr';simp only [Result.ok.injEq] at hr';rw [hr'.2];exact Below.heap_alloc w.drew _ k hk
  ·exact h3.block k hk hkv
theorem Yui {a:Act} {K:Act→World→Prop} (s x:Operand) (t:TypeId) (ho:o.op=.call { callee:=.builtin .append,args:=#[s,x],argTypes:=#[t,t] }) (v u r:Value) (hs:a.eval s=v) (hx:a.eval x=u) (hr:(Builtin.append_ #[t,t] o.type #[v,u]).run prog w=.ok r w') (h:K (a.put o.dst r) w'):o.wp prog a w K Q:=by
 unfold Oper.wp execOp;simp only [ho,resolve,invoke,builtin,Sem.run_bind,Sem.run_pure,Result.andThen_ok,List.map_toArray,List.map_cons,List.map_nil,hs,hx,hr];exact h
theorem Yuj {a:Act} {K:Act→World→Prop} {E:Prop} (hgd:o.guard=none) (s x:Operand) (t:TypeId) (ho:o.op=.call { callee:=.builtin .append,args:=#[s,x],argTypes:=#[t,t] }) (v u r:Value) (hs:a.eval s=v) (hx:a.eval x=u) (hr:(Builtin.append_ #[t,t] o.type #[v,u]).run prog w=.ok r w') (h:K (a.put o.dst r) w'):
 if Region.wanted o (yielded ops a.tmps)=true then Oper.wp prog o a w K Q else E:=by
 rw [if_pos (by simp [Region.wanted,hgd])]
 exact Yui s x t ho v u r hs hx hr h
theorem Ymb {rest:List Oper} {a:Act} (hgd:o.guard=none) (s x:Operand) (t:TypeId) (ho:o.op=.call { callee:=.builtin .append,args:=#[s,x],argTypes:=#[t,t] }) (v u r:Value) (hs:a.eval s=v) (hx:a.eval x=u) (hr:(Builtin.append_ #[t,t] o.type #[v,u]).run prog w=.ok r w') (h:wpList prog ops Q rest (a.put o.dst r) w'):wpList prog ops Q (o :: rest) a w:=
 wpList_plain hgd fun _ hK=>Yui s x t ho v u r hs hx hr (hK _ _ h)
theorem Ymc (h:w.ownsRow base e size v n ys) (hf:Yfw ys size n item):Yc8 w v n size item:=by
 rcases h.2 with ⟨h1,h2⟩ | ⟨g,cap,cur,h1,h2⟩
 ·exact .inl ⟨h1,h2⟩
 ·subst h1
  exact .inr ⟨g,cap,rfl,(h.lt g rfl).2,fun i hi j u hu=>Yal h (hf i hi j u hu)⟩
theorem Yo3 (h:w.ownsRow base e size v n ys) (hf:Yfw ys size n item) (h':w'.ownsRow base e size (.slice (some ⟨g,0,none⟩) (n+1) cap) (n+1) (ys ++ item)) (hs:w.heap.size≤w'.heap.size) (hat:v.ownBlock=some g∨(g=w.heap.size∧∀ k,k<w.heap.size→w'.heap[k]? = w.heap[k]?)):
 Yfw (ys ++ item) size (n+1) item∧Yc8 w' v n size item:=by
 have hl:=h.1
 have hold:∀ i,i<n→∀ j u,item[j]? = some u→(ys ++ item)[i*size+j]? = some u:=fun i hin j u hu=>by
  have h1:=hf i hin j u hu;rw [List.getElem?_append_left (List.getElem?_eq_some_iff.1 h1).1];exact h1
 refine ⟨fun i hin j u hu=>?_,?_⟩
 ·by_cases hn:i<n
  ·exact hold i hn j u hu
  ·have:i=n:=by omega
   subst this;rw [List.getElem?_append_right (by rw [hl];omega),hl,show i*size+j - i*size=j by omega];exact hu
 ·rcases hat with hat | ⟨_,hat⟩
  ·rcases h.2 with ⟨h1,_⟩ | ⟨g0,cap0,cur,h1,_⟩
   ·rw [h1] at hat;cases hat
   ·subst h1
    have hg:g0=g:=by simpa [Value.ownBlock] using hat
    subst hg;exact .inr ⟨g0,cap0,rfl,(h'.lt g0 rfl).2,fun i hin j u hu=>Yal h' (hold i hin j u hu)⟩
  ·exact (Ymc h hf).frame (fun k hk=>hat k (h.lt k hk).2) hs
structure Ydv (w:World) (hb:Nat) (h:Yav) (base:Nat):Prop where
 cell:w.heap[hb]? = some (.cells #[h.vp,h.ve,h.vb,.int .i64 (h.mark:Int)] 150 (0,0))
 rp:∃ ys,w.ownsRow base 43 2 h.vp h.np ys∧Yfw ys 2 h.np (Yfv h.mark)
 re:∃ ys,w.ownsRow base 152 9 h.ve h.ne ys∧Yfw ys 9 h.ne (Ye1 h.mark)
 rb:∃ ys,w.ownsRow base 5 1 h.vb h.nb ys∧Yfw ys 1 h.nb (Yg3 h.mark)
 small:h.np≤99990∧h.ne≤99990∧h.nb≤99990∧h.mark≤100000000000000
theorem Ydv.hold (H:Ydv w hb h base):Ydl w hb h:=by
 obtain ⟨y1,a1,a2⟩:=H.rp;obtain ⟨y2,b1,b2⟩:=H.re;obtain ⟨y3,c1,c2⟩:=H.rb;have:=H.small;exact ⟨H.cell,Ymc a1 a2,Ymc b1 b2,Ymc c1 c2,by omega⟩
theorem Yjo {s2 n2:Nat} {v2:Value} {x2:List Value} (h1:w.ownsRow b1 e1 s1 v1 n1 x1) (h2:w.ownsRow b2 e2 s2 v2 n2 x2) (he:e1≠e2) (g:Nat) (hg:v1.ownBlock=some g):v2.ownBlock≠some g:=fun hg2=>by
 obtain ⟨c1,k1⟩:=Ydf h1 hg;obtain ⟨c2,k2⟩:=Ydf h2 hg2;rw [k1] at k2;simp only [Option.some.injEq,Obj.cells.injEq] at k2;exact he k2.2.1
theorem Yc3 {cs:Array Value} (h1:w.ownsRow b1 e1 s1 v1 n1 x1) (h2:w.heap[hb]? = some (.cells cs e2 (0,0))) (he:e1≠e2):v1.ownBlock≠some hb:=fun hg=>by
 obtain ⟨c1,k1⟩:=Ydf h1 hg;rw [k1] at h2;simp only [Option.some.injEq,Obj.cells.injEq] at h2;exact he h2.2.1
structure Yeg (w W:World) (hb gb base:Nat) (h:Yav) (vp ve vb:Value) (ip ie ib:Nat):Prop where
 cell:W.heap[gb]? = some (.cells #[if ip=0 then .slice none 0 0 else vp,if ie=0 then .slice none 0 0 else ve,if ib=0 then .slice none 0 0 else vb,.int .i64 (h.mark:Int)] 150 (0,0))
 rp:∃ ys,W.ownsRow base 43 2 vp (h.np+ip) ys∧Yfw ys 2 (h.np+ip) (Yfv h.mark)
 re:∃ ys,W.ownsRow base 152 9 ve (h.ne+ie) ys∧Yfw ys 9 (h.ne+ie) (Ye1 h.mark)
 rb:∃ ys,W.ownsRow base 5 1 vb (h.nb+ib) ys∧Yfw ys 1 (h.nb+ib) (Yg3 h.mark)
 old:Ydl W hb h
 typ:(∀ g,h.vp.ownBlock=some g→∃ cs,W.heap[g]? = some (.cells cs 43 (0,0)))∧(∀ g,h.ve.ownBlock=some g→∃ cs,W.heap[g]? = some (.cells cs 152 (0,0)))∧∀ g,h.vb.ownBlock=some g→∃ cs,W.heap[g]? = some (.cells cs 5 (0,0))
 at':(∀ g,vp.ownBlock=some g→h.vp.ownBlock=some g∨w.heap.size≤g)∧(∀ g,ve.ownBlock=some g→h.ve.ownBlock=some g∨w.heap.size≤g)∧(∀ g,vb.ownBlock=some g→h.vb.ownBlock=some g∨w.heap.size≤g)
 off:∀ x,x<w.heap.size→h.vp.ownBlock≠some x→h.ve.ownBlock≠some x→h.vb.ownBlock≠some x→W.heap[x]? = w.heap[x]?
 below:Below 0 w W
theorem Y4p (m:Nat):∀ u∈Yfv m,u.oneCell'=true:=fun u hu=>by simp [Yfv] at hu;subst hu;rfl
theorem Y4q (L:Yeg w W hb gb base h h.vp h.ve h.vb 0 0 0) (hgb:w.heap.size≤gb) (hbs:base≤w.heap.size) (hbw:hb<w.heap.size) (ty:TypeId):
 ∃ g cap w4,(Builtin.append_ #[34,34] ty #[h.vp,.slice (some ⟨W.heap.size,0,none⟩) 1 1]).run prog (W.alloc (.cells #[.string (Yc7 h.mark),.string (Yc7 h.mark)] 43))=.ok (.slice (some ⟨g,0,none⟩) (h.np+1) cap) w4 ∧
  w4.heap[gb]? = some (.cells #[.slice none 0 0,.slice none 0 0,.slice none 0 0,.int .i64 (h.mark:Int)] 150 (0,0))∧w4.heap[hb]? = W.heap[hb]? ∧
  Yeg w (w4.setCell ⟨gb,0,none⟩ (.slice (some ⟨g,0,none⟩) (h.np+1) cap)) hb gb base h (.slice (some ⟨g,0,none⟩) (h.np+1) cap) h.ve h.vb 1 0 0:=by
 obtain ⟨i0,hi,hz0,hz1,hz2⟩:=info_parts Ygk
 obtain ⟨ys,r1,r2⟩:=L.rp
 obtain ⟨ye,e1,e2⟩:=L.re
 obtain ⟨yb,b1,b2⟩:=L.rb
 have hsm:=L.old.small
 have hsw:=L.below.size
 have hWg:gb<W.heap.size:=Yaz L.cell
 obtain ⟨W3,hW3⟩:∃ W3,W3=W.alloc (.cells #[.string (Yc7 h.mark),.string (Yc7 h.mark)] 43):=⟨_,rfl⟩
 have hB3:Below W.heap.size W W3:=by rw [hW3];exact (Below.refl _ _).alloc (Nat.le_refl _) _
 have hN3:W3.heap[W.heap.size]? = some (.cells #[.string (Yc7 h.mark),.string (Yc7 h.mark)] 43 (0,0)):=by rw [hW3];exact heap_alloc_new W _
 have hz3:W3.heap.size=W.heap.size+1:=by rw [hW3];simp
 have r3:=Ybe r1 hB3 (fun g hg=>(r1.lt g hg).2)
 have hs3:=hB3.size
 rw [Nat.add_zero] at r1 r2 r3 e1 e2 b1 b2
 obtain ⟨g,cap,w4,k1,k2,k3,k4⟩:=Ykt W3 34 ty base 43 i0 _ 2 32 underlying34 hi hz0 hz1 hz2 rfl (by omega) h.vp h.np ys r3 ⟨W.heap.size,0,none⟩ 1 (Yfv h.mark) rfl (fun j u hu=>by rw [Ydg];exact Yaa hN3 (by simpa [Yfv] using hu)) (Y4p _) (by unfold maxLen;omega) (by omega) (by omega)
 obtain ⟨f1,f2⟩:=Yo3 r3 r2 k2 k3.size k4
 have hkeep:∀ x,x<W.heap.size→h.vp.ownBlock≠some x→w4.heap[x]? = W.heap[x]?:=fun x hx hn=>(k3.block x (by omega) (fun e=>hn e.symm)).trans (hB3.block x hx)
 have hgbv:h.vp.ownBlock≠some gb:=Yc3 r1 L.cell (by decide)
 have hhbv:h.vp.ownBlock≠some hb:=Yc3 r1 L.old.cell (by decide)
 have hcg:w4.heap[gb]? = some (.cells #[.slice none 0 0,.slice none 0 0,.slice none 0 0,.int .i64 (h.mark:Int)] 150 (0,0)):=(hkeep gb hWg hgbv).trans L.cell
 have hbW:hb<W.heap.size:=by omega
 have hch:w4.heap[hb]? = W.heap[hb]?:=hkeep hb hbW hhbv
 rw [hW3] at k1
 refine ⟨g,cap,w4,k1,hcg,hch,?_⟩
 have hY:∀ x,x≠gb→(w4.setCell ⟨gb,0,none⟩ (.slice (some ⟨g,0,none⟩) (h.np+1) cap)).heap[x]? = w4.heap[x]?:=fun x hx=>Below.heap_setCell _ _ _ _ hx
 have hYz:(w4.setCell ⟨gb,0,none⟩ (.slice (some ⟨g,0,none⟩) (h.np+1) cap)).heap.size=w4.heap.size:=by simp
 have hYc:=Yak w4 gb 0 (.slice (some ⟨g,0,none⟩) (h.np+1) cap) _ _ hcg
 have hYb:Below 0 w (w4.setCell ⟨gb,0,none⟩ (.slice (some ⟨g,0,none⟩) (h.np+1) cap)):=(((L.below.trans (hB3.mono (Nat.zero_le _))).trans ⟨k3.os,k3.tape,k3.output,k3.size,fun x hx=>by omega⟩)).setCell (p:=⟨gb,0,none⟩) (by simp) _
 generalize w4.setCell ⟨gb,0,none⟩ (.slice (some ⟨g,0,none⟩) (h.np+1) cap)=Y at hY hYz hYc hYb
 have hs4:=k3.size
 have hgg:g≠gb:=fun e=>by
  have:=Yc3 k2 hcg (by decide);exact this (by rw [←e];rfl)
 have hve:∀ x,h.ve.ownBlock=some x→Y.heap[x]? = W.heap[x]?:=fun x hx=>(hY x (fun e=>Yc3 e1 L.cell (by decide) (by rw [←e];exact hx))).trans (hkeep x (e1.lt x hx).2 (Yjo e1 r1 (by decide) x hx))
 have hvb:∀ x,h.vb.ownBlock=some x→Y.heap[x]? = W.heap[x]?:=fun x hx=>(hY x (fun e=>Yc3 b1 L.cell (by decide) (by rw [←e];exact hx))).trans (hkeep x (b1.lt x hx).2 (Yjo b1 r1 (by decide) x hx))
 have hvp:∀ x,h.vp.ownBlock=some x→Y.heap[x]? = w4.heap[x]?:=fun x hx=>hY x (fun e=>hgbv (by rw [←e];exact hx))
 refine ⟨hYc,⟨_,Yas k2 (fun x hx=>hY x (fun e=>hgg (by
  have:g=x:=by simpa [Value.ownBlock] using hx
  rw [this,e]))),f1⟩,⟨ye,Yas e1 hve,e2⟩,⟨yb,Yas b1 hvb,b2⟩,⟨((hY hb (by omega)).trans hch).trans L.old.cell,f2.frame hvp (by omega),L.old.re.frame hve (by omega),L.old.rb.frame hvb (by omega),L.old.small⟩,⟨fun x hx=>?_,fun x hx=>by rw [hve x hx];exact L.typ.2.1 x hx,fun x hx=>by rw [hvb x hx];exact L.typ.2.2 x hx⟩,⟨fun x hx=>?_,fun x hx=>.inl hx,fun x hx=>.inl hx⟩,fun x hx n1 n2 n3=>?_,?_⟩
 ·rw [hvp x hx]
  rcases k4 with k4 | ⟨_,k4⟩
  ·have:g=x:=by rw [hx] at k4;simpa using k4.symm
   subst this;exact Ydf k2 rfl
  ·rw [k4 x (by have:=(r1.lt x hx).2;omega),hB3.block x (r1.lt x hx).2]
   exact Ydf r1 hx
 ·have hgx:g=x:=by simpa [Value.ownBlock] using hx
  rcases k4 with k4 | ⟨k4,_⟩
  ·exact .inl (by rw [←hgx];exact k4)
  ·exact .inr (by omega)
 ·exact ((hY x (by omega)).trans (hkeep x (by omega) n1)).trans (L.off x hx n1 n2 n3)
 ·exact hYb
theorem Yeg.drew {ip ie ib:Nat} (L:Yeg w W hb gb base h vp ve vb ip ie ib):Yeg w W.drew hb gb base h vp ve vb ip ie ib:=
 ⟨L.cell,L.rp,L.re,L.rb,L.old.frame (fun _ _=>rfl) (Nat.le_refl _),L.typ,L.at',L.off,L.below.drew⟩
theorem Y4r (m:Nat):∀ u∈Ye1 m,u.oneCell'=true:=fun u hu=>by
 simp [Ye1] at hu;rcases hu with rfl | rfl | rfl | rfl | rfl | rfl | rfl <;> rfl
theorem Y4s (L:Yeg w W hb gb base h vp h.ve h.vb 1 0 0) (hgb:w.heap.size≤gb) (hbs:base≤w.heap.size) (hbw:hb<w.heap.size) (ty:TypeId):
 ∃ g cap w4,(Builtin.append_ #[69,69] ty #[h.ve,.slice (some ⟨W.heap.size,0,none⟩) 1 1]).run prog (W.alloc (.cells (Ye1 h.mark).toArray 152))=.ok (.slice (some ⟨g,0,none⟩) (h.ne+1) cap) w4 ∧
  w4.heap[gb]? = some (.cells #[vp,.slice none 0 0,.slice none 0 0,.int .i64 (h.mark:Int)] 150 (0,0))∧w4.heap[hb]? = W.heap[hb]? ∧
  Yeg w (w4.setCell ⟨gb,1,none⟩ (.slice (some ⟨g,0,none⟩) (h.ne+1) cap)) hb gb base h vp (.slice (some ⟨g,0,none⟩) (h.ne+1) cap) h.vb 1 1 0:=by
 obtain ⟨i0,hi,hz0,hz1,hz2⟩:=info_parts Yk0
 obtain ⟨yp,p1,p2⟩:=L.rp
 obtain ⟨ys,r1,r2⟩:=L.re
 obtain ⟨yb,b1,b2⟩:=L.rb
 have hsm:=L.old.small
 have hsw:=L.below.size
 have hWg:gb<W.heap.size:=Yaz L.cell
 obtain ⟨W3,hW3⟩:∃ W3,W3=W.alloc (.cells (Ye1 h.mark).toArray 152):=⟨_,rfl⟩
 have hB3:Below W.heap.size W W3:=by rw [hW3];exact (Below.refl _ _).alloc (Nat.le_refl _) _
 have hN3:W3.heap[W.heap.size]? = some (.cells (Ye1 h.mark).toArray 152 (0,0)):=by rw [hW3];exact heap_alloc_new W _
 have hz3:W3.heap.size=W.heap.size+1:=by rw [hW3];simp
 have r3:=Ybe r1 hB3 (fun g hg=>(r1.lt g hg).2)
 have hs3:=hB3.size
 rw [Nat.add_zero] at r1 r2 r3 b1 b2
 obtain ⟨g,cap,w4,k1,k2,k3,k4⟩:=Ykt W3 69 ty base 152 i0 _ 9 96 underlying69 hi hz0 hz1 hz2 rfl (by omega) h.ve h.ne ys r3 ⟨W.heap.size,0,none⟩ 1 (Ye1 h.mark) rfl (fun j u hu=>by rw [Ydg];exact Yaa hN3 (by simpa using hu)) (Y4r _) (by unfold maxLen;omega) (by omega) (by omega)
 obtain ⟨f1,f2⟩:=Yo3 r3 r2 k2 k3.size k4
 have hkeep:∀ x,x<W.heap.size→h.ve.ownBlock≠some x→w4.heap[x]? = W.heap[x]?:=fun x hx hn=>(k3.block x (by omega) (fun e=>hn e.symm)).trans (hB3.block x hx)
 have hgbv:h.ve.ownBlock≠some gb:=Yc3 r1 L.cell (by decide)
 have hhbv:h.ve.ownBlock≠some hb:=Yc3 r1 L.old.cell (by decide)
 have hcg:w4.heap[gb]? = some (.cells #[vp,.slice none 0 0,.slice none 0 0,.int .i64 (h.mark:Int)] 150 (0,0)):=(hkeep gb hWg hgbv).trans L.cell
 have hbW:hb<W.heap.size:=by omega
 have hch:w4.heap[hb]? = W.heap[hb]?:=hkeep hb hbW hhbv
 rw [hW3] at k1
 refine ⟨g,cap,w4,k1,hcg,hch,?_⟩
 have hY:∀ x,x≠gb→(w4.setCell ⟨gb,1,none⟩ (.slice (some ⟨g,0,none⟩) (h.ne+1) cap)).heap[x]? = w4.heap[x]?:=fun x hx=>Below.heap_setCell _ _ _ _ hx
 have hYz:(w4.setCell ⟨gb,1,none⟩ (.slice (some ⟨g,0,none⟩) (h.ne+1) cap)).heap.size=w4.heap.size:=by simp
 have hYc:=Yak w4 gb 1 (.slice (some ⟨g,0,none⟩) (h.ne+1) cap) _ _ hcg
 have hYb:Below 0 w (w4.setCell ⟨gb,1,none⟩ (.slice (some ⟨g,0,none⟩) (h.ne+1) cap)):=(((L.below.trans (hB3.mono (Nat.zero_le _))).trans ⟨k3.os,k3.tape,k3.output,k3.size,fun x hx=>by omega⟩)).setCell (p:=⟨gb,1,none⟩) (by simp) _
 generalize w4.setCell ⟨gb,1,none⟩ (.slice (some ⟨g,0,none⟩) (h.ne+1) cap)=Y at hY hYz hYc hYb
 have hs4:=k3.size
 have hgg:g≠gb:=fun e=>by
  have:=Yc3 k2 hcg (by decide);exact this (by rw [←e];rfl)
 have hvc:∀ x,vp.ownBlock=some x→Y.heap[x]? = W.heap[x]?:=fun x hx=>(hY x (fun e=>Yc3 p1 L.cell (by decide) (by rw [←e];exact hx))).trans (hkeep x (p1.lt x hx).2 (Yjo p1 r1 (by decide) x hx))
 have hvb:∀ x,h.vb.ownBlock=some x→Y.heap[x]? = W.heap[x]?:=fun x hx=>(hY x (fun e=>Yc3 b1 L.cell (by decide) (by rw [←e];exact hx))).trans (hkeep x (b1.lt x hx).2 (Yjo b1 r1 (by decide) x hx))
 have hvp:∀ x,h.vp.ownBlock=some x→Y.heap[x]? = W.heap[x]?:=fun x hx=>by
  obtain ⟨cs,hcs⟩:=L.typ.1 x hx;refine (hY x (fun e=>?_)).trans (hkeep x (Yaz hcs) (Yc3 r1 hcs (by decide)));rw [e,L.cell] at hcs;simp at hcs
 have hve:∀ x,h.ve.ownBlock=some x→Y.heap[x]? = w4.heap[x]?:=fun x hx=>hY x (fun e=>hgbv (by rw [←e];exact hx))
 have hk2Y:=Yas (w':=Y) k2 (fun x hx=>hY x (fun e=>hgg (by simpa [Value.ownBlock,e] using hx)))
 refine ⟨hYc,⟨yp,Yas p1 hvc,p2⟩,⟨_,hk2Y,f1⟩,⟨yb,Yas b1 hvb,b2⟩,⟨((hY hb (by omega)).trans hch).trans L.old.cell,L.old.rp.frame hvp (by omega),f2.frame hve (by omega),L.old.rb.frame hvb (by omega),L.old.small⟩,⟨fun x hx=>by rw [hvp x hx];exact L.typ.1 x hx,fun x hx=>?_,fun x hx=>by rw [hvb x hx];exact L.typ.2.2 x hx⟩,⟨L.at'.1,fun x hx=>?_,fun x hx=>.inl hx⟩,fun x hx n1 n2 n3=>?_,hYb⟩
 ·rw [hve x hx]
  rcases k4 with k4 | ⟨_,k4⟩
  ·have:g=x:=by rw [hx] at k4;simpa using k4.symm
   subst this;exact Ydf k2 rfl
  ·rw [k4 x (by have:=(r1.lt x hx).2;omega),hB3.block x (r1.lt x hx).2]
   exact Ydf r1 hx
 ·have hgx:g=x:=by simpa [Value.ownBlock] using hx
  rcases k4 with k4 | ⟨k4,_⟩
  ·exact .inl (by rw [←hgx];exact k4)
  ·exact .inr (by omega)
 ·exact ((hY x (by omega)).trans (hkeep x (by omega) n2)).trans (L.off x hx n1 n2 n3)
theorem Y4t (m:Nat):∀ u∈Yg3 m,u.oneCell'=true:=fun u hu=>by
 simp [Yg3] at hu;subst hu;rfl
theorem Y4u (L:Yeg w W hb gb base h vp ve h.vb 1 1 0) (hgb:w.heap.size≤gb) (hbs:base≤w.heap.size) (hbw:hb<w.heap.size) (ty:TypeId):
 ∃ g cap w4,(Builtin.append_ #[46,46] ty #[h.vb,.slice (some ⟨W.heap.size,0,none⟩) 1 1]).run prog (W.alloc (.cells (Yg3 h.mark).toArray 5))=.ok (.slice (some ⟨g,0,none⟩) (h.nb+1) cap) w4 ∧
  w4.heap[gb]? = some (.cells #[vp,ve,.slice none 0 0,.int .i64 (h.mark:Int)] 150 (0,0))∧w4.heap[hb]? = W.heap[hb]? ∧
  Yeg w (w4.setCell ⟨gb,2,none⟩ (.slice (some ⟨g,0,none⟩) (h.nb+1) cap)) hb gb base h vp ve (.slice (some ⟨g,0,none⟩) (h.nb+1) cap) 1 1 1:=by
 obtain ⟨i0,hi,hz0,hz1,hz2⟩:=info_parts Yqt
 obtain ⟨yp,p1,p2⟩:=L.rp
 obtain ⟨ye,e1,e2⟩:=L.re
 obtain ⟨ys,r1,r2⟩:=L.rb
 have hsm:=L.old.small
 have hsw:=L.below.size
 have hWg:gb<W.heap.size:=Yaz L.cell
 obtain ⟨W3,hW3⟩:∃ W3,W3=W.alloc (.cells (Yg3 h.mark).toArray 5):=⟨_,rfl⟩
 have hB3:Below W.heap.size W W3:=by rw [hW3];exact (Below.refl _ _).alloc (Nat.le_refl _) _
 have hN3:W3.heap[W.heap.size]? = some (.cells (Yg3 h.mark).toArray 5 (0,0)):=by rw [hW3];exact heap_alloc_new W _
 have hz3:W3.heap.size=W.heap.size+1:=by rw [hW3];simp
 have r3:=Ybe r1 hB3 (fun g hg=>(r1.lt g hg).2)
 have hs3:=hB3.size
 rw [Nat.add_zero] at r1 r2 r3
 obtain ⟨g,cap,w4,k1,k2,k3,k4⟩:=Ykt W3 46 ty base 5 i0 _ 1 1 underlying46 hi hz0 hz1 hz2 rfl (by omega) h.vb h.nb ys r3 ⟨W.heap.size,0,none⟩ 1 (Yg3 h.mark) rfl (fun j u hu=>by rw [Ydg];exact Yaa hN3 (by simpa using hu)) (Y4t _) (by unfold maxLen;omega) (by omega) (by omega)
 obtain ⟨f1,f2⟩:=Yo3 r3 r2 k2 k3.size k4
 have hkeep:∀ x,x<W.heap.size→h.vb.ownBlock≠some x→w4.heap[x]? = W.heap[x]?:=fun x hx hn=>(k3.block x (by omega) (fun e=>hn e.symm)).trans (hB3.block x hx)
 have hgbv:h.vb.ownBlock≠some gb:=Yc3 r1 L.cell (by decide)
 have hhbv:h.vb.ownBlock≠some hb:=Yc3 r1 L.old.cell (by decide)
 have hcg:w4.heap[gb]? = some (.cells #[vp,ve,.slice none 0 0,.int .i64 (h.mark:Int)] 150 (0,0)):=(hkeep gb hWg hgbv).trans L.cell
 have hbW:hb<W.heap.size:=by omega
 have hch:w4.heap[hb]? = W.heap[hb]?:=hkeep hb hbW hhbv
 rw [hW3] at k1
 refine ⟨g,cap,w4,k1,hcg,hch,?_⟩
 have hY:∀ x,x≠gb→(w4.setCell ⟨gb,2,none⟩ (.slice (some ⟨g,0,none⟩) (h.nb+1) cap)).heap[x]? = w4.heap[x]?:=fun x hx=>Below.heap_setCell _ _ _ _ hx
 have hYz:(w4.setCell ⟨gb,2,none⟩ (.slice (some ⟨g,0,none⟩) (h.nb+1) cap)).heap.size=w4.heap.size:=by simp
 have hYc:=Yak w4 gb 2 (.slice (some ⟨g,0,none⟩) (h.nb+1) cap) _ _ hcg
 have hYb:Below 0 w (w4.setCell ⟨gb,2,none⟩ (.slice (some ⟨g,0,none⟩) (h.nb+1) cap)):=(((L.below.trans (hB3.mono (Nat.zero_le _))).trans ⟨k3.os,k3.tape,k3.output,k3.size,fun x hx=>by omega⟩)).setCell (p:=⟨gb,2,none⟩) (by simp) _
 generalize w4.setCell ⟨gb,2,none⟩ (.slice (some ⟨g,0,none⟩) (h.nb+1) cap)=Y at hY hYz hYc hYb
 have hs4:=k3.size
 have hgg:g≠gb:=fun e=>by
  have:=Yc3 k2 hcg (by decide);exact this (by rw [←e];rfl)
 have hvc:∀ x,vp.ownBlock=some x→Y.heap[x]? = W.heap[x]?:=fun x hx=>(hY x (fun e=>Yc3 p1 L.cell (by decide) (by rw [←e];exact hx))).trans (hkeep x (p1.lt x hx).2 (Yjo p1 r1 (by decide) x hx))
 have hvd:∀ x,ve.ownBlock=some x→Y.heap[x]? = W.heap[x]?:=fun x hx=>(hY x (fun e=>Yc3 e1 L.cell (by decide) (by rw [←e];exact hx))).trans (hkeep x (e1.lt x hx).2 (Yjo e1 r1 (by decide) x hx))
 have hve:∀ x,h.ve.ownBlock=some x→Y.heap[x]? = W.heap[x]?:=fun x hx=>by
  obtain ⟨cs,hcs⟩:=L.typ.2.1 x hx;refine (hY x (fun e=>?_)).trans (hkeep x (Yaz hcs) (Yc3 r1 hcs (by decide)));rw [e,L.cell] at hcs;simp at hcs
 have hvp:∀ x,h.vp.ownBlock=some x→Y.heap[x]? = W.heap[x]?:=fun x hx=>by
  obtain ⟨cs,hcs⟩:=L.typ.1 x hx;refine (hY x (fun e=>?_)).trans (hkeep x (Yaz hcs) (Yc3 r1 hcs (by decide)));rw [e,L.cell] at hcs;simp at hcs
 have hvb:∀ x,h.vb.ownBlock=some x→Y.heap[x]? = w4.heap[x]?:=fun x hx=>hY x (fun e=>hgbv (by rw [←e];exact hx))
 have hk2Y:=Yas (w':=Y) k2 (fun x hx=>hY x (fun e=>hgg (by simpa [Value.ownBlock,e] using hx)))
 refine ⟨hYc,⟨yp,Yas p1 hvc,p2⟩,⟨ye,Yas e1 hvd,e2⟩,⟨_,hk2Y,f1⟩,⟨((hY hb (by omega)).trans hch).trans L.old.cell,L.old.rp.frame hvp (by omega),L.old.re.frame hve (by omega),f2.frame hvb (by omega),L.old.small⟩,⟨fun x hx=>by rw [hvp x hx];exact L.typ.1 x hx,fun x hx=>by rw [hve x hx];exact L.typ.2.1 x hx,fun x hx=>?_⟩,⟨L.at'.1,L.at'.2.1,fun x hx=>?_⟩,fun x hx n1 n2 n3=>?_,hYb⟩
 ·rw [hvb x hx]
  rcases k4 with k4 | ⟨_,k4⟩
  ·have:g=x:=by rw [hx] at k4;simpa using k4.symm
   subst this;exact Ydf k2 rfl
  ·rw [k4 x (by have:=(r1.lt x hx).2;omega),hB3.block x (r1.lt x hx).2]
   exact Ydf r1 hx
 ·have hgx:g=x:=by simpa [Value.ownBlock] using hx
  rcases k4 with k4 | ⟨k4,_⟩
  ·exact .inl (by rw [←hgx];exact k4)
  ·exact .inr (by omega)
 ·exact ((hY x (by omega)).trans (hkeep x (by omega) n3)).trans (L.off x hx n1 n2 n3)
theorem Y4v (H:Ydv w hb h base) (hb1:Below w.heap.size w w1):Yeg w (w1.alloc (.cells #[.slice none 0 0,.slice none 0 0,.slice none 0 0,.int .i64 (h.mark:Int)] 150)) hb w1.heap.size base h h.vp h.ve h.vb 0 0 0:=by
 have hB:Below w.heap.size w (w1.alloc (.cells #[.slice none 0 0,.slice none 0 0,.slice none 0 0,.int .i64 (h.mark:Int)] 150)):=hb1.alloc hb1.size _;obtain ⟨yp,p1,p2⟩:=H.rp;obtain ⟨ye,e1,e2⟩:=H.re;obtain ⟨yb,b1,b2⟩:=H.rb;have p3:=Ybe p1 hB (fun g hg=>(p1.lt g hg).2);have e3:=Ybe e1 hB (fun g hg=>(e1.lt g hg).2);have b3:=Ybe b1 hB (fun g hg=>(b1.lt g hg).2);exact ⟨heap_alloc_new _ _,⟨yp,p3,p2⟩,⟨ye,e3,e2⟩,⟨yb,b3,b2⟩,H.hold.below hB,⟨fun g hg=>Ydf p3 hg,fun g hg=>Ydf e3 hg,fun g hg=>Ydf b3 hg⟩,⟨fun _ hg=>.inl hg,fun _ hg=>.inl hg,fun _ hg=>.inl hg⟩,fun x hx _ _ _=>hB.block x hx,hB.mono (Nat.zero_le _)⟩
theorem Y4w (w:World) (hb base:Nat) (h:Yav) (H:Ydv w hb h base) (hbs:base≤w.heap.size):
 Calls prog 127 #[.pointer (some ⟨hb,0,none⟩)] w fun e w'=>∃ gb,e=.returned (.pointer (some ⟨gb,0,none⟩))∧w.heap.size≤gb∧∃ vp ve vb,Yeg w w' hb gb base h vp ve vb 1 1 1:=by
 have hsm:=H.small
 have KS:=Yh (Yma h.mark hsm.2.2.2 w)
 have hbw:hb<w.heap.size:=Yaz H.cell
 have c3:w.cell? ⟨hb,3,none⟩=some (.int .i64 (h.mark:Int)):=Yaa H.cell rfl
 have HH:=Yh H
 clear H
 go_enter func127,ntmps127
 go_upto_region 2 with (first
  | (go_at_call 99;go_must (
   refine KS.out.mono ?_;rintro e w1 ⟨rfl,hb1⟩;have HB1:=Yh hb1;have d3:w1.cell? ⟨hb,3,none⟩=some (.int .i64 (h.mark:Int)):=(hb1.cell hbw).trans c3;clear hb1)))
 go_upto_region 3 with fail
 have L0:=Y4v HH.out HB1.out
 revert L0
 generalize hW2:w1.alloc (.cells #[.slice none 0 0,.slice none 0 0,.slice none 0 0,.int .i64 (h.mark:Int)] 150)=W2
 intro L0
 have hgb:w.heap.size≤w1.heap.size:=HB1.out.size
 clear hW2 d3 c3
 generalize w1.heap.size=gb at L0 hgb ⊢
 have f0:W2.cell? ⟨hb,0,none⟩=some h.vp:=Yaa (j:=0) L0.old.cell rfl
 obtain ⟨g,cap,w4,hr,hcg,hch,L1⟩:=Y4q L0 hgb hbs hbw 34
 have HL1:=Yh L1
 have x0:w4.cell? ⟨gb,0,none⟩=some (.slice none 0 0):=Yaa (j:=0) hcg rfl
 have y0:=Yah 0 hcg
 clear L1 L0 hcg hch
 go_upto_region 4 with (first
  | (at_builtin;go_must (refine Ymb rfl _ _ 34 rfl h.vp _ _ rfl rfl hr ?_)))
 revert HL1
 generalize w4.setCell ⟨gb,0,none⟩ (.slice (some ⟨g,0,none⟩) (h.np+1) cap)=W5
 intro HL1
 clear hr x0 y0 f0
 have L1:=HL1.out
 have f1:W5.cell? ⟨hb,1,none⟩=some h.ve:=Yaa (j:=1) L1.old.cell rfl
 have f3:W5.cell? ⟨hb,3,none⟩=some (.int .i64 (h.mark:Int)):=Yaa (j:=3) L1.old.cell rfl
 obtain ⟨g2,cap2,w6,hr2,hcg2,hch2,L2⟩:=Y4s L1.drew hgb hbs hbw 69
 have HL2:=Yh L2
 have HR2:=Yh hr2
 have x1:w6.cell? ⟨gb,1,none⟩=some (.slice none 0 0):=Yaa (j:=1) hcg2 rfl
 have y1:=Yah 1 hcg2
 have hwn:IntKind.i64.wrap (-(h.mark:Int)) = -(h.mark:Int):=by rw [IntKind.wrap_i64];omega
 have lh:hb<W5.heap.size:=Yaz L1.old.cell
 have lg:gb<W5.heap.size:=Yaz L1.cell
 have lh':W5.heap.size≠hb:=by omega
 clear L1 L2 hcg2 hch2 hr2
 go_region_law (first
  | (
   refine Yuj ?hgd (.tmp 32) (.tmp 40) 69 ?hop h.ve (.slice (some ⟨W5.heap.size,0,none⟩) 1 1) _ ?hs ?hx HR2.out ?_
   case hgd=>rfl
   case hop=>rfl
   case hs=>go_simp
   case hx=>go_simp))
 all_goals
  revert HL2;generalize w6.setCell ⟨gb,1,none⟩ (.slice (some ⟨g2,0,none⟩) (h.ne+1) cap2)=W7;intro HL2;clear HR2 x1 y1 f1 f3 lh lg lh';have L2:=HL2.out;have f2:W7.cell? ⟨hb,2,none⟩=some h.vb:=Yaa (j:=2) L2.old.cell rfl;have f3:W7.cell? ⟨hb,3,none⟩=some (.int .i64 (h.mark:Int)):=Yaa (j:=3) L2.old.cell rfl;obtain ⟨g3,cap3,w8,hr3,hcg3,hch3,L3⟩:=Y4u L2.drew hgb hbs hbw 46;have HL3:=Yh L3;have HR3:=Yh hr3;have x2:w8.cell? ⟨gb,2,none⟩=some (.slice none 0 0):=Yaa (j:=2) hcg3 rfl;have y2:=Yah 2 hcg3;have hw8:IntKind.u8.wrap (h.mark:Int)=(h.mark:Int) % 256:=by simp [IntKind.wrap,IntKind.signed,IntKind.bits]
  have lh:hb<W7.heap.size:=Yaz L2.old.cell;have lg:gb<W7.heap.size:=Yaz L2.cell;have lh':W7.heap.size≠hb:=by omega
  clear L2 L3 hcg3 hch3 hr3;go_upto_region 5 with fail
  go_region_law (first
   | (
    refine Yuj ?hgd (.tmp 48) (.tmp 54) 46 ?hop h.vb (.slice (some ⟨W7.heap.size,0,none⟩) 1 1) _ ?hs ?hx HR3.out ?_
    case hgd=>rfl
    case hop=>rfl
    case hs=>go_simp
    case hx=>go_simp))
  all_goals
   go_wp2;go_ret;exact ⟨gb,rfl,hgb,_,_,_,HL3.out⟩
theorem Y4x (L:Yeg w W hb gb base h vp ve vb 1 1 1) (hs:h.np≤99989∧h.ne≤99989∧h.nb≤99989):Ydv W gb ⟨vp,ve,vb,h.np+1,h.ne+1,h.nb+1,h.mark⟩ base:=
 ⟨L.cell,L.rp,L.re,L.rb,⟨by show h.np+1≤99990;omega,by show h.ne+1≤99990;omega,by show h.nb+1≤99990;omega,L.old.small.2.2.2⟩⟩
theorem Ymd (size:Nat) (item:List Value):Yfw [] size 0 item:=fun i hi=>by omega
theorem Y4y {np:Nat} (M:Yef w W base 43 2 v np np (Yfv m)) (hc:w.heap[hb]? = some (.cells #[v,.slice none 0 0,.slice none 0 0,.int .i64 (m:Int)] 150 (0,0))) (hbv:v.ownBlock≠some hb) (hnp:np≤99990) (hm:m≤100000000000000):Ydv W hb ⟨v,.slice none 0 0,.slice none 0 0,np,0,0,m⟩ base:=
 ⟨(M.off hb (Yaz hc) hbv).trans hc,M.row,⟨[],World.ownsRow_nil _ _ _ _,Ymd _ _⟩,⟨[],World.ownsRow_nil _ _ _ _,Ymd _ _⟩,⟨hnp,Nat.zero_le _,Nat.zero_le _,hm⟩⟩
theorem Y4z {ne:Nat} (M:Yef w W base 152 9 v ne ne (Ye1 m)) (hc:w.heap[hb]? = some (.cells #[.slice none 0 0,v,.slice none 0 0,.int .i64 (m:Int)] 150 (0,0))) (hbv:v.ownBlock≠some hb) (hne:ne≤99990) (hm:m≤100000000000000):Ydv W hb ⟨.slice none 0 0,v,.slice none 0 0,0,ne,0,m⟩ base:=
 ⟨(M.off hb (Yaz hc) hbv).trans hc,⟨[],World.ownsRow_nil _ _ _ _,Ymd _ _⟩,M.row,⟨[],World.ownsRow_nil _ _ _ _,Ymd _ _⟩,⟨Nat.zero_le _,hne,Nat.zero_le _,hm⟩⟩
end Go.Proofs.YtihbngfbcnojcaaGreat
