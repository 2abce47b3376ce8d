import Derived.Test.YtihbngfbcnojcaaGreatActC15
set_option maxRecDepth 100000
set_option maxHeartbeats 8000000
namespace Go.Proofs.YtihbngfbcnojcaaGreat
open Go.RowKit Tryz
variable {k:Bool} {key:ByteArray} {M:DataW Value} {t u:Int} {ks:List ByteArray} {es lg:List Yac} {a j n q:Nat} {V X:Nat→Prop} {s s':Sv} {x:TxE} {W W1 w w' w0:World}
theorem Yoi (h:Yan w s) (g:Yar s):
 Calls prog 290 #[.pointer (some ⟨s.kb,0,none⟩)] w fun e w'=>∃ v,e=.returned v∧w'.ownsRow w.heap.size 152 9 v s.ents.length (Ybf s.ents)∧Below w.heap.size w w':=by
 have c0:w.cell? ⟨s.kb,0,none⟩=some (.pointer (some ⟨s.vb,0,none⟩)):=Yaa (h.comp .kind) (Yb1 s (by omega) rfl)
 have v1:w.cell? ⟨s.vb,1,none⟩=some (.int .u32 s.start):=Yaa (h.comp .vol) rfl
 have hlen:s.log.length<400:=by rw [g.logd.len];have:=g.ln;omega
 obtain ⟨a0,c0',e0,hz,hne0⟩:=g.logd.rest s.log.length (by rw [g.logd.len];exact Nat.le_refl _) hlen
 have hel:s.ents.length=s.log.length:=List.length_map _
 have hb:Below w.heap.size w w.drew:=(Below.refl _ w).drew
 have K:=Y1y (w:=w.drew) s.vb s.db s.D s.ws s.v s.start a0 c0' e0 s.log (Yaa ((h.below hb).comp .vol) rfl) ((h.below hb).disk g) hlen (fun i hi=>g.logd.at' i hi) hz hne0
 have HK:Hid (Calls prog 103 #[.pointer (some ⟨s.vb,0,none⟩),.int .u32 s.start] w.drew fun e w'=>∃ v,e=.returned v∧w'.ownsRow w.heap.size 152 9 v s.ents.length (Ybf s.ents)∧Below w.heap.size w w'):=by
  refine K.mono ?_;rintro e w' ⟨v,h1,h2,h3⟩;exact ⟨v,h1,by rw [hel];exact h2,hb.trans h3⟩
 have HC:Hid (∀ W,Below w.heap.size w W→W.cell? ⟨s.kb,0,none⟩=some (.pointer (some ⟨s.vb,0,none⟩))∧W.cell? ⟨s.vb,1,none⟩=some (.int .u32 s.start)):=fun W hW=>⟨(hW.cell (p:=⟨s.kb,0,none⟩) (h.lt .kind _ rfl)).trans c0,(hW.cell (p:=⟨s.vb,1,none⟩) (h.lt .vol _ rfl)).trans v1⟩
 generalize hkb:s.kb=kb at c0 HC ⊢
 generalize hvb:s.vb=vb at c0 v1 HC HK
 generalize hss:s.start=st at v1 HC HK
 clear h g K hb hz hne0
 go_enter func290,ntmps290
 go_wp2
 go_region_held3 (fun w'=>w'.cell? ⟨kb,0,none⟩=some (.pointer (some ⟨vb,0,none⟩))∧w'.cell? ⟨vb,1,none⟩=some (.int .u32 st))
  (go_keep)
  (first
   | (go_at_call 103;go_must (
    refine HK.out.mono ?_;rintro e w1 ⟨v,rfl,h1,h2⟩;obtain ⟨d0,d1⟩:=HC.out w1 h2;have HX:Hid (w1.ownsRow w.heap.size 152 9 v s.ents.length (Ybf s.ents)∧Below w.heap.size w w1):=⟨h1,h2⟩;clear h1 h2)))
 all_goals
  go_wp2;go_ret;exact ⟨v,rfl,HX.out⟩
theorem Yoj (h:Yan w s):Maps.Tidy s.mo.M:=by
 have hm:Yap w 3 s.mo.b s.mo.n s.mo.M:=h.comp .mo;obtain ⟨es,h1,h2,_⟩:=World.ownsMap.entries hm (Maps.int_keyed underlying3);exact ⟨es,h1,h2⟩
theorem Ybx:∀ (l:List Yac) (i:Nat) (e:Yac),l[i]? = some e→∀ j u,e.cells[j]? = some u→(Ybf l)[i*9+j]? = some u
 | [],i,e,h,_,_,_=>by simp at h
 | d :: r,0,e,h,j,u,hu=>by
  simp at h;subst h;have hj:=(Array.getElem?_eq_some_iff.1 hu).1;show (d.cells.toList ++ Ybf r)[0*9+j]? = _;rw [Nat.zero_mul,Nat.zero_add,List.getElem?_append_left (by simpa using hj),Array.getElem?_toList];exact hu
 | d :: r,i+1,e,h,j,u,hu=>by
  have ih:=Ybx r i e (by simpa using h) j u hu;have hl:d.cells.toList.length=9:=rfl;show (d.cells.toList ++ Ybf r)[(i+1)*9+j]? = _;rw [List.getElem?_append_right (by omega),hl,show (i+1)*9+j - 9=i*9+j by omega];exact ih
def Ydt (lg:List Yac):Nat→List Yac→Prop
 | n,[]=>n=0
 | n,e :: r=>∃ m:Nat,1≤n∧lg[n - 1]? = some e∧e.prev=(m:Int)∧m<n∧Ydt lg m r
theorem Ydt.more (x:List Yac):∀ {n:Nat} {l:List Yac},Ydt lg n l→Ydt (lg ++ x) n l
 | _,[],h=>h
 | n,e :: r,⟨m,h1,h2,h3,h4,h5⟩=>⟨m,h1,by rw [List.getElem?_append_left (List.getElem?_eq_some_iff.1 h2).1];exact h2,h3,h4,h5.more x⟩
theorem Ydt.le:∀ {n:Nat} {l:List Yac},Ydt lg n l→n≤lg.length
 | n,[],h=>by have:n=0:=h;omega
 | n,e :: r,⟨m,h1,h2,_⟩=>by have:=(List.getElem?_eq_some_iff.1 h2).1;omega
theorem Ydt.mem:∀ {n:Nat} {l:List Yac},Ydt lg n l→∀ e∈l,e∈lg
 | _,[],_,e,he=>(List.not_mem_nil he).elim
 | n,d :: r,⟨m,_,h2,_,_,h5⟩,e,he=>by
  rcases List.mem_cons.1 he with rfl | he
  ·exact List.mem_of_getElem? h2
  ·exact h5.mem e he
def Ycw (e:Yac):ByteArray×(Bool×ByteArray):=(e.key,(e.oldIs,e.old))
theorem Ytq (h:Yan w s) (g:Yar s) (t:Int) (ht:Yax t) (x:TxE) (hx:s.tx t=some x) (base:Nat) (vE:Value) (hrow:w.ownsRow base 152 9 vE lg.length (Ybf lg)) (hlg:lg.length≤400) (ups:List Yac) (hc:Ydt lg x.last ups):
 Calls prog 305 #[.pointer (some ⟨s.kb,0,none⟩),.int .i64 t,vE] w fun e w'=>∃ v,e=.returned v∧w'.ownsRow w.heap.size 152 9 v ups.length (Ybf ups)∧Below w.heap.size w w':=by
 have hl:=Ykd ht (h.comp .mo) (g.isOpen t x hx)
 have c5:w.cell? ⟨s.kb,5,none⟩=some (.map (some s.mo.b)):=Yaa (h.comp .kind) (Yb1 s (by omega) rfl)
 have ctx:w.cell? ⟨x.tb,0,none⟩=some (.int .i64 (x.last:Int)):=Yaa (j:=0) (h.comp (.tx t) x hx) rfl
 obtain ⟨ad,cap,rfl,_⟩:=Ya6 hrow
 have HROW:=Yh hrow
 have HC:=Yh hc
 generalize hkb:s.kb=kb at c5 ⊢
 clear h g hx hrow hc
 go_enter func305,ntmps305
 go_wp2
 go_loopw [7,8] (fun u iv wr=>∃ (n:Nat) (es l:List Yac),iv=.int .i64 (n:Int)∧n≤lg.length∧es.length+n≤400∧Ydt lg n l∧es ++ l=ups∧wr.ownsRow w.heap.size 152 9 u es.length (Ybf es)∧Below w.heap.size w wr) (fun _ iv _=>(intOf iv).toNat)
 case atStart=>
  refine ⟨x.last,[],ups,rfl,?_,?_,HC.out,rfl,World.ownsRow_nil _ _ _ _,Below.refl _ _⟩
  ·exact HC.out.le
  ·have:=HC.out.le;simp;omega
 case round=>
  obtain ⟨n,es,l,rfl,hn,hne,hch,hup,hout,hbr⟩:=hrel;have HBR:=Yh hbr;have HUP:=Yh hup;have hsz:=hbr.size
  cases l with
  | nil=>
   have hn0:n=0:=hch;subst hn0;have HOUT:=Yh hout;clear hout hbr hup;go_wp2;go_ret;have hes:es=ups:=by have:=HUP.out;simpa using this
   rw [←hes];exact ⟨_,rfl,HOUT.out,HBR.out⟩
  | cons e r=>
   obtain ⟨m,h1,h2,h5,h6,h7⟩:=hch;obtain ⟨k,rfl⟩:∃ k,n=k+1:=⟨n - 1,by omega⟩;rw [Nat.add_sub_cancel] at h2;have hk:k<lg.length:=(List.getElem?_eq_some_iff.1 h2).1;have hget:lg[k]? = some e:=h2;have hownr:=Ybe HROW.out hbr (fun g hg=>(HROW.out.lt g hg).2);obtain ⟨gE,cap',he⟩:=Ybn hownr (by omega);simp only [Value.slice.injEq] at he;obtain ⟨rfl,-,rfl⟩:=he;have hgE:gE<w.heap.size:=(HROW.out.lt gE rfl).2;have HCH:=Yh h7;obtain ⟨kind,tx,prev,next,key,oldIs,old,newIs,new⟩:=e;simp only at h5;subst h5;have a0:wr.cell? ⟨gE,k*9,none⟩=some (.int .i64 kind):=Yal hownr (by have h9:=Ybx _ k _ hget 0 (.int .i64 kind) rfl;rw [Nat.add_zero] at h9;exact h9);have a1:wr.cell? ⟨gE,k*9+1,none⟩=some (.int .i64 tx):=Yal hownr (Ybx _ k _ hget 1 _ rfl);have a2:wr.cell? ⟨gE,k*9+2,none⟩=some (.int .i64 (m:Int)):=Yal hownr (Ybx _ k _ hget 2 _ rfl);have a3:wr.cell? ⟨gE,k*9+3,none⟩=some (.int .i64 next):=Yal hownr (Ybx _ k _ hget 3 _ rfl);have a4:wr.cell? ⟨gE,k*9+4,none⟩=some (.string key):=Yal hownr (Ybx _ k _ hget 4 _ rfl);have a5:wr.cell? ⟨gE,k*9+5,none⟩=some (.bool oldIs):=Yal hownr (Ybx _ k _ hget 5 _ rfl);have a6:wr.cell? ⟨gE,k*9+6,none⟩=some (.string old):=Yal hownr (Ybx _ k _ hget 6 _ rfl);have a7:wr.cell? ⟨gE,k*9+7,none⟩=some (.bool newIs):=Yal hownr (Ybx _ k _ hget 7 _ rfl);have a8:wr.cell? ⟨gE,k*9+8,none⟩=some (.string new):=Yal hownr (Ybx _ k _ hget 8 _ rfl);have hcast:((k+1:Nat):Int)=(k:Int)+1:=by omega
   have hpos:(0:Int)<(k:Int)+1:=by omega
   have hw1:wrap64 ((k:Int)+1 - 1)=(k:Int):=by simp only [wrap64];omega
   have hltk:(k:Int)<(lg.length:Int):=by omega
   have HOUT:=Yh hout;have hel:es.length≤400:=by omega
   rw [hcast];clear hout hbr hup hownr hget h1 h2 h7;go_wp2_with (first
    | (at_builtin;go_must (
     refine Ytl rfl _ _ rfl w.heap.size _ es es.length rfl rfl (HOUT.out.alloc _) wr.heap.size ⟨kind,tx,(m:Int),next,key,oldIs,old,newIs,new⟩ rfl (heap_alloc_new _ _) (by omega) (by simp;omega) ?_;intro v5 w5 hown5 hb5;have hb6:Below w.heap.size wr w5:=((Below.refl _ _).alloc (by omega) _).trans hb5;have d2:w5.cell? ⟨gE,k*9+2,none⟩=some (.int .i64 (m:Int)):=(hb6.cell (p:=⟨gE,k*9+2,none⟩) hgE).trans a2;have HO5:=Yh hown5;have HB5:Hid (Below w.heap.size w w5):=HBR.out.trans hb6;clear hown5 hb5 hb6)))
   refine ⟨⟨m,es ++ [⟨kind,tx,(m:Int),next,key,oldIs,old,newIs,new⟩],r,rfl,by omega,by simp;omega,HCH.out,?_,?_,HB5.out⟩,by simp [intOf];omega⟩
   ·have:=HUP.out
    simpa using this
   ·rw [List.length_append];exact HO5.out
def Ydj (c:Bool×ByteArray):Bool×ByteArray:=if c.1 then (true,c.2) else (false,ByteArray.empty)
def Yd4:List (ByteArray×(Bool×ByteArray))→(ByteArray→Bool×ByteArray)→ByteArray→Bool×ByteArray
 | [],f=>f
 | u :: r,f=>Yd4 r (fun k=>if k=u.1 then u.2 else f k)
theorem Yig:∀ (l:List (ByteArray×(Bool×ByteArray))) (f g:ByteArray→Bool×ByteArray) (key:ByteArray),f key=g key→Yd4 l f key=Yd4 l g key
 | [],_,_,_,h=>h
 | u :: r,f,g,key,h=>Yig r _ _ key (by by_cases he:key=u.1 <;> simp [he,h])
theorem Ykm:∀ (l:List (ByteArray×(Bool×ByteArray))) (f:ByteArray→Bool×ByteArray) (key:ByteArray),(∀ u∈l,u.1≠key)→Yd4 l f key=f key
 | [],_,_,_=>rfl
 | u :: r,f,key,h=>by
  rw [Yd4,Ykm r _ key (fun v hv=>h v (by simp [hv]))];rw [if_neg (fun e=>h u (by simp) e.symm)]
def Yd5 (c:Nat→Yaf):List (ByteArray×(Bool×ByteArray))→Nat→Yaf
 | []=>c
 | u :: r=>Yd5 (fun n=>if n=Yae u.1 then Yaw (c n) u.1 u.2.1 u.2.2 else c n) r
theorem Ytr:∀ (l:List (ByteArray×(Bool×ByteArray))) (c:Nat→Yaf) (u:ByteArray×(Bool×ByteArray)),Yd5 c (l ++ [u])=fun n=>if n=Yae u.1 then Yaw (Yd5 c l n) u.1 u.2.1 u.2.2 else Yd5 c l n
 | [],_,_=>rfl
 | _ :: r,_,u=>Ytr r _ u
theorem Yok:∀ (l:List (ByteArray×(Bool×ByteArray))) (c:Nat→Yaf),(∀ n,n<8→Ybi (c n))→(∀ u∈l,Ydj u.2=u.2)→(∀ n,n<8→Ybi (Yd5 c l n))∧(∀ n,n<8→∀ p∈Yd5 c l n,p∈c n∨((∃ u∈l,u.1=p.1)∧Yae p.1=n)) ∧
 (∀ key,Yag (Yd5 c l (Yae key)) key=Yd4 l (fun k=>Yag (c (Yae k)) k) key)
 | [],c,hr,_=>⟨hr,fun n _ p hp=>.inl hp,fun key=>rfl⟩
 | u :: r,c,hr,hn=>by
  have hr':∀ n,n<8→Ybi ((fun n=>if n=Yae u.1 then Yaw (c n) u.1 u.2.1 u.2.2 else c n) n):=fun n hn'=>by
   by_cases hb:n=Yae u.1
   ·simp only [hb,if_true];rw [←hb];exact Yfo (hr n hn') _ _ _
   ·simp only [hb,if_false];exact hr n hn'
  obtain ⟨h1,h2,h3⟩:=Yok r (fun n=>if n=Yae u.1 then Yaw (c n) u.1 u.2.1 u.2.2 else c n) hr' (fun v hv=>hn v (by simp [hv]));refine ⟨h1,fun n hn' p hp=>?_,fun key=>?_⟩
  ·rcases h2 n hn' p hp with h4 | ⟨⟨v,hv,e⟩,h5⟩
   ·by_cases hb:n=Yae u.1
    ·simp only [hb,if_true] at h4
     rw [←hb] at h4;rcases Yhk (hr n hn') _ _ _ h4 with h5 | ⟨_,h5⟩
     ·exact .inl h5
     ·exact .inr ⟨⟨u,by simp,by rw [h5]⟩,by rw [h5];exact hb.symm⟩
    ·simp only [hb,if_false] at h4
     exact .inl h4
   ·exact .inr ⟨⟨v,by simp [hv],e⟩,h5⟩
  ·show Yag (Yd5 (fun n=>if n=Yae u.1 then Yaw (c n) u.1 u.2.1 u.2.2 else c n) r (Yae key)) key=Yd4 r (fun k=>if k=u.1 then u.2 else Yag (c (Yae k)) k) key
   rw [h3];refine Yig _ _ _ _ ?_;by_cases hb:Yae key=Yae u.1
   ·simp only [hb,if_true]
    rw [Yic (hr _ (Ycy u.1))];by_cases he:key=u.1
    ·rw [if_pos he,if_pos he];exact hn u (by simp)
    ·rw [if_neg he,if_neg he]
   ·simp only [hb,if_false]
    rw [if_neg (fun e=>hb (by rw [e]))]
def Yol (t:Int) (last len j:Nat) (e:Yac):Yac:=⟨2,t,(Ydc last len j:Int),e.prev,e.key,false,ByteArray.empty,e.oldIs,e.old⟩
def Ygy (t:Int) (last len:Nat) (es:List Yac):List Yac:=es.mapIdx fun j e=>Yol t last len j e
theorem Y1z (t:Int) (last len:Nat) (es:List Yac) (i:Nat) (h:i<es.length):Ygy t last len (es.take (i+1))=Ygy t last len (es.take i) ++ [Yol t last len i es[i]]:=by
 rw [Ygy,Ygy,List.take_succ_eq_append_getElem h,List.mapIdx_concat,List.length_take,Nat.min_eq_left (by omega)]
abbrev Yom:Yac:=⟨4,0,0,0,ByteArray.empty,false,ByteArray.empty,false,ByteArray.empty⟩
def Ygz (t:Int) (last len:Nat) (es:List Yac) (n:Nat):List Yac:=if n≤es.length then Ygy t last len (es.take n) else Ygy t last len es ++ [{ Yom with tx:=t,prev:=(Ydc last len es.length:Int) }]
def Yfd (t:Int) (last len:Nat) (es:List Yac):List Yac:=if es=[] then [] else Ygy t last len es ++ [{ Yom with tx:=t,prev:=(Ydc last len es.length:Int) }]
structure Abx (W1:World) (s:Sv) (q:Nat) (t:Int) (x:TxE) (es:List Yac):Prop where
 lies:Yan W1 s
 good:Yar s
 held:Yao s q
 cap:Cap s
 ht:0≤t∧t<256
 hx:s.tx t=some x
 last:x.last≤s.len
 fits:∀ e∈es,e.Fits∧Ydj (e.oldIs,e.old)=(e.oldIs,e.old)
 all:∀ e∈es,Ybc x.H e.key=2
 room:s.len+es.length+1≤391
def Yl4 (V:Nat→Prop) (w0 w:World) (s':Sv):Prop:=∀ q,V q→q<w.heap.size∧(∀ tag,s'.blk tag≠some q)∧w.heap[q]? = w0.heap[q]?
theorem Yl4.go (h:Yl4 V w0 w s) (g:Yab w w' s s'):Yl4 V w0 w' s':=fun q hq=>by
 obtain ⟨h1,h2,h3⟩:=h q hq;refine ⟨by have:=g.below.size;omega,fun tag ht=>?_,(g.off q h1 h2).trans h3⟩;rcases g.grown tag q ht with h4 | h4
 ·exact h2 tag h4
 ·omega
def Ab (W1:World) (s:Sv) (t:Int) (x:TxE) (es:List Yac) (V:Nat→Prop) (w0:World) (n j:Nat) (w:World):Prop:=∃ s' x',Yl4 V w0 w s'∧Yje s s' t x' n j (Yd5 s.cont ((es.take j).map Ycw)) (Ygz t x.last s.len es n)∧(x'.H=x.H∧x'.nH=x.nH∧x'.last=Ydc x.last s.len n)∧Yab W1 w s s'
theorem Yon {c:Bool×ByteArray} (h:Ydj c=c) (hf:c.1=false):c.2.size=0:=by
 unfold Ydj at h;rw [hf] at h;rw [←h];rfl
theorem Abx.put (C:Abx W1 s q t x es) (e:Yac) (he:(0≤e.kind∧e.kind<256)∧(0≤e.next∧e.next<65536)∧e.key.size≤8∧e.old.size≤12∧e.new.size≤12) (ho:e.oldIs=false→e.old.size=0) (hn:e.newIs=false→e.new.size=0) {V:Nat→Prop} {w0:World} {n j:Nat} (hni:n≤es.length) (hes:Ygz t x.last s.len es (n+1)=Ygz t x.last s.len es n ++ [{ e with tx:=t,prev:=(Ydc x.last s.len n:Int) }]) (h:Ab W1 s t x es V w0 n j W):
 Calls prog 288 #[.pointer (some ⟨s.kb,0,none⟩),.int .i64 t,.agg e.cells] W fun r w'=>r=.returned (.tuple #[])∧Ab W1 s t x es V w0 (n+1) j w':=by
 obtain ⟨s',x',hpv,h1,hH,h2⟩:=h
 have hr:=C.room
 have hl:=h1.nums.1
 have hx':s'.tx t=some x':=by rw [h1.tx];simp
 have hlx:=Yta C.last n
 rw [←hH.2.2] at hlx
 have K:=Yki h2.lies h2.good (h1.held ⟨hH.1,hH.2.1⟩ C.hx C.held) (by omega) t C.ht x' hx' e ⟨he.1,C.ht,⟨by simp only;omega,by simp only;omega⟩,he.2.1,he.2.2.1,he.2.2.2.1,he.2.2.2.2⟩ ho hn
 rw [h1.same.1] at K
 refine K.mono ?_
 rintro r w' ⟨e1,v',g2,_⟩
 refine ⟨e1,Ybr s' t x' e v',{ x' with last:=s'.len+1 },hpv.go g2,⟨h1.cont,?_,⟨?_,h1.nums.2⟩,h1.same,?_⟩,⟨hH.1,hH.2.1,?_⟩,h2.trans g2⟩
 ·funext u
  show (if u=t then some { x' with last:=s'.len+1 } else s'.tx u)=_;by_cases hu:u=t
  ·rw [if_pos hu,if_pos hu]
  ·rw [if_neg hu,if_neg hu,h1.tx];simp [hu]
 ·show s'.len+1=s.len+(n+1)
  rw [hl];omega
 ·rw [hes,←List.append_assoc,←h1.log,←hH.2.2]
  show List.map (fun p=>p.1) (s'.log ++ [_])=_;rw [List.map_append];rfl
 ·show s'.len+1=Ydc x.last s.len (n+1)
  rw [hl,Ytb];omega
theorem Abx.enter (C:Abx W1 s q t x es) {V:Nat→Prop} {w0:World} {i:Nat} (hi:i<es.length) (h:Ab W1 s t x es V w0 i i W):
 Calls prog 288 #[.pointer (some ⟨s.kb,0,none⟩),.int .i64 t,.agg #[.int .i64 2,.int .i64 0,.int .i64 0,.int .i64 es[i].prev,.string es[i].key,.bool false,.string ByteArray.empty,.bool es[i].oldIs,.string es[i].old]] W fun r w'=>r=.returned (.tuple #[])∧Ab W1 s t x es V w0 (i+1) i w':=by
 obtain ⟨hfit,hnrm⟩:=C.fits es[i] (List.getElem_mem hi)
 refine C.put ⟨2,0,0,es[i].prev,es[i].key,false,ByteArray.empty,es[i].oldIs,es[i].old⟩ ⟨by simp,hfit.prev,hfit.key,by simp,hfit.old⟩ (fun _=>rfl) (fun h0=>Yon hnrm h0) (by omega) ?_ h
 rw [Ygz,Ygz,if_pos (by omega),if_pos (by omega),Y1z _ _ _ _ _ hi]
 rfl
theorem Abx.close (C:Abx W1 s q t x es) {V:Nat→Prop} {w0:World} {j:Nat} (h:Ab W1 s t x es V w0 es.length j W):
 Calls prog 288 #[.pointer (some ⟨s.kb,0,none⟩),.int .i64 t,.agg #[.int .i64 4,.int .i64 0,.int .i64 0,.int .i64 0,.string ByteArray.empty,.bool false,.string ByteArray.empty,.bool false,.string ByteArray.empty]] W fun r w'=>r=.returned (.tuple #[])∧Ab W1 s t x es V w0 (es.length+1) j w':=by
 refine C.put Yom ⟨by simp,by simp,by simp,by simp,by simp⟩ (fun _=>rfl) (fun _=>rfl) (Nat.le_refl _) ?_ h
 rw [Ygz,Ygz,if_neg (by omega),if_pos (Nat.le_refl _),List.take_length]
theorem Abx.set (C:Abx W1 s q t x es) {V:Nat→Prop} {w0:World} {i:Nat} (hi:i<es.length) (h:Ab W1 s t x es V w0 (i+1) i W):
 Calls prog 80 #[.pointer (some ⟨s.kb,2,none⟩),.string es[i].key,.agg #[.bool es[i].oldIs,.string es[i].old]] W fun r w'=>r=.returned (.tuple #[])∧Ab W1 s t x es V w0 (i+1) (i+1) w':=by
 obtain ⟨s',x',hpv,h1,hH,h2⟩:=h
 have hmem:es[i]∈es:=List.getElem_mem hi
 have hnr:∀ u∈(es.take i).map Ycw,Ydj u.2=u.2:=fun u hu=>by
  obtain ⟨e,he,rfl⟩:=List.mem_map.1 hu;exact (C.fits e (List.mem_of_mem_take he)).2
 obtain ⟨f1,f2,f3⟩:=Yok ((es.take i).map Ycw) s.cont (fun n hn=>(C.good.rise n hn).1) hnr
 have hmc:=C.good.mcn
 have hn:=h1.nums
 have hfe:=(C.fits es[i] hmem).1
 have hfit:(Yaw (s'.cont (Yae es[i].key)) es[i].key es[i].oldIs es[i].old).length≤4:=by
  rw [h1.cont];obtain ⟨L,l1,l2⟩:=C.cap _ (Ycy es[i].key);have hnd:=Yjb (Yfo (f1 _ (Ycy es[i].key)) es[i].key es[i].oldIs es[i].old);rw [←List.length_map (f:=(·.1))];refine Nat.le_trans (hnd.length_le_of_subset fun k hk'=>?_) l1;obtain ⟨p,hp,rfl⟩:=List.mem_map.1 hk';have hheld:∀ e,e∈es→Yae e.key=Yae es[i].key→e.key∈L:=fun e h3 h4=>l2 _ (.inr ⟨h4,t,x,C.hx,C.all e h3⟩)
  rcases Yhk (f1 _ (Ycy es[i].key)) _ _ _ hp with h3 | ⟨_,h3⟩
  ·rcases f2 _ (Ycy es[i].key) p h3 with h4 | ⟨⟨u,hu,e5⟩,h5⟩
   ·exact l2 _ (.inl ⟨p,h4,rfl⟩)
   ·obtain ⟨e,he,rfl⟩:=List.mem_map.1 hu
    have e6:e.key=p.1:=e5;rw [←e6] at h5 ⊢;exact hheld e (List.mem_of_mem_take he) h5
  ·rw [h3];exact hheld _ hmem rfl
 have K:=Ynx h2.lies h2.good es[i].key hfe.key es[i].oldIs es[i].old hfe.old (by omega) hfit
 rw [h1.same.1,h1.cont] at K
 refine K.mono ?_
 rintro r w' ⟨e1,s1,p',hp,g2⟩
 obtain ⟨P,mm,rfl,hmm⟩:=hp
 refine ⟨e1,({ s' with pgs:=P,mp:=mm }:Sv).put (Yae es[i].key) p' (Yaw (Yd5 s.cont ((es.take i).map Ycw) (Yae es[i].key)) es[i].key es[i].oldIs es[i].old),x',hpv.go g2,⟨?_,h1.tx,⟨hn.1,hn.2.1,hn.2.2.1,hn.2.2.2.1,?_⟩,h1.same,h1.log⟩,hH,h2.trans g2⟩
 ·rw [List.take_add_one,List.getElem?_eq_getElem hi]
  show (fun n=>if n=Yae es[i].key then Yaw (Yd5 s.cont ((es.take i).map Ycw) (Yae es[i].key)) es[i].key es[i].oldIs es[i].old else s'.cont n)=Yd5 s.cont ((es.take i ++ [es[i]]).map Ycw);rw [List.map_append];show _=Yd5 s.cont ((es.take i).map Ycw ++ [Ycw es[i]]);rw [Ytr,h1.cont];funext n;by_cases hb:n=Yae es[i].key
  ·simp only [Ycw,hb,if_true]
  ·simp only [Ycw,hb,if_false]
 ·show s'.mc.n+1=s.mc.n+(i+1)
  rw [hn.2.2.2.2];omega
theorem Ab.start (h:Yan W1 s) (g:Yar s) (hx:s.tx t=some x):Ab W1 s t x es (fun _=>False) w 0 0 W1:=by
 have htx:s.tx=fun u=>if u=t then some x else s.tx u:=by
  funext u;by_cases hu:u=t
  ·rw [if_pos hu,hu];exact hx
  ·rw [if_neg hu]
 exact ⟨s,x,fun q hq=>hq.elim,⟨rfl,htx,⟨rfl,rfl,rfl,rfl,rfl⟩,⟨rfl,rfl,rfl,rfl⟩,(List.append_nil _).symm⟩,⟨rfl,rfl,rfl⟩,Yab.refl h g⟩
theorem Ab.var (h:Ab W1 s t x es V w0 n j w) (o:Obj):Ab W1 s t x es (fun q=>q=w.heap.size) (w.alloc o) n j (w.alloc o):=by
 obtain ⟨s',x',_,h1,hH,h2⟩:=h;have hb:Below w.heap.size w (w.alloc o):=(Below.refl _ w).alloc (Nat.le_refl _) _;exact ⟨s',x',fun q hq=>⟨by rw [hq];simp,fun tag ht=>by have:=h2.lies.lt tag q ht;omega,rfl⟩,h1,hH,h2.on_below hb⟩
theorem Ab.drew (h:Ab W1 s t x es V w0 n j w):Ab W1 s t x es V w0 n j w.drew:=by
 obtain ⟨s',x',hpv,h1,hH,h2⟩:=h;exact ⟨s',x',hpv,h1,hH,h2.drew⟩
theorem Ab.free {w1:World} (h:Ab W1 s t x es V w0 n j w):Ab W1 s t x es (fun _=>False) w1 n j w:=by
 obtain ⟨s',x',_,h1,hH,h2⟩:=h;exact ⟨s',x',fun q hq=>hq.elim,h1,hH,h2⟩
theorem Ab.kept (h:Ab W1 s t x es V w0 n j w) {q:Nat} (hq:V q):w.heap[q]? = w0.heap[q]?:=by
 obtain ⟨s',x',hpv,_⟩:=h;exact (hpv q hq).2.2
structure Yoo (s s':Sv) (t:Int) (c:Nat→Yaf) (n:Nat) (es:List Yac):Prop where
 cont:s'.cont=c
 tx:s'.tx=fun u=>if u=t then none else s.tx u
 nums:s'.acts=s.acts∧s'.begun=s.begun∧s'.kb=s.kb∧s'.mo.M=s.mo.M.del (.int .i64 t)∧s.len≤s'.len∧s'.len≤s.len+n
 log:s'.ents=s.ents ++ es
theorem Yts {c:Bool×ByteArray} (h:c.1=false→c.2.size=0):Ydj c=c:=by
 unfold Ydj;obtain ⟨i,v⟩:=c
 cases i with
 | true=>rfl
 | false=>
  have hv:v=ByteArray.empty:=by
   have h0:v.size=0:=h rfl
   cases v with
   | mk d=>
    have:d=#[]:=Array.eq_empty_of_size_eq_zero h0;rw [this];rfl
  simp only [Bool.false_eq_true,if_false];rw [hv]
def Ytt (w:World) (s:Sv) (q:Nat) (t:Int) (last:Nat) (ups:List Yac) (w':World):Prop:=∃ s',Yoo s s' t (Yd5 s.cont (ups.map Ycw)) (ups.length+1) (Yfd t last s.len ups)∧Yab w w' s s'∧Yao s' q
theorem Abx.fin (C:Abx W1 s q t x es) {V:Nat→Prop} {n:Nat} (hn:n=if es=[] then 0 else es.length+1) (h:Ab W1 s t x es V w0 n es.length W):
 W.cell? ⟨s.kb,5,none⟩=some (.map (some s.mo.b))∧∃ w',(Builtin.delete_ #[227,3] 0 #[.map (some s.mo.b),.int .i64 t]).run prog W=.ok (.tuple #[]) w'∧∃ s',Yoo s s' t (Yd5 s.cont (es.map Ycw)) (es.length+1) (Yfd t x.last s.len es)∧Yab W1 w' s s'∧Yao s' q:=by
 obtain ⟨s',x',_,h1,hH,h2⟩:=h
 have ht:=C.ht
 have hnle:n≤es.length+1:=by rw [hn];split <;> omega
 have a1:W.cell? ⟨s'.kb,5,none⟩=some (.map (some s'.mo.b)):=Yaa (h2.lies.comp .kind) (Yb1 s' (j:=5) (by omega) rfl)
 obtain ⟨w',hdel,hgo⟩:=Ylw h2.lies h2.good t ⟨by omega,by omega⟩ 0
 rw [h1.same.1,h1.same.2.1] at a1
 rw [h1.same.2.1] at hdel
 have hall:Ygz t x.last s.len es n=Yfd t x.last s.len es:=by
  by_cases he:es=[]
  ·rw [Yfd,if_pos he,hn,if_pos he,he];rfl
  ·rw [Yfd,if_neg he,hn,if_neg he,Ygz,if_neg (by omega)]
 refine ⟨a1,w',hdel,Ybv s' t,⟨?_,?_,⟨h1.nums.2.1,h1.nums.2.2.1,h1.same.1,?_,?_,?_⟩,?_⟩,h2.trans hgo,Ylv (h1.held ⟨hH.1,hH.2.1⟩ C.hx C.held) t⟩
 ·show s'.cont=_
  rw [h1.cont,List.take_length]
 ·funext u
  show (if u=t then none else s'.tx u)=_;by_cases hu:u=t
  ·rw [if_pos hu,if_pos hu]
  ·rw [if_neg hu,if_neg hu,h1.tx];simp [hu]
 ·show s'.mo.M.del _=_
  rw [h1.same.2.1]
 ·show s.len≤s'.len
  rw [h1.nums.1];omega
 ·show s'.len≤_
  rw [h1.nums.1];omega
 ·rw [←hall];exact h1.log
theorem Y10 (h:Yan w s) (g:Yar s) (hh:Yao s q) (hc:Cap s) (t:Int) (ht:0≤t∧t<256) (x:TxE) (hx:s.tx t=some x) (hlast:x.last≤s.len) (ups:List Yac) (hch:Ydt s.ents x.last ups) (hall:∀ u∈ups,Ybc x.H u.key=2) (hroom:s.len+ups.length+1≤391):
 Calls prog 299 #[.pointer (some ⟨s.kb,0,none⟩),.int .i64 t] w fun e w'=>e=.returned (.tuple #[])∧Ytt w s q t x.last ups w':=by
 have hti:Yax t:=⟨by omega,by omega⟩
 have hlg:s.ents.length≤400:=by rw [Sv.ents,List.length_map,g.logd.len];have:=g.ln;omega
 have KE:=Yh (Yoi h g)
 have KB:Hid (∀ W vE,Below w.heap.size w W→W.ownsRow w.heap.size 152 9 vE s.ents.length (Ybf s.ents)→Calls prog 305 #[.pointer (some ⟨s.kb,0,none⟩),.int .i64 t,vE] W fun e w'=>∃ v,e=.returned v∧w'.ownsRow W.heap.size 152 9 v ups.length (Ybf ups)∧Below W.heap.size W w'):=fun W vE hW hr=>Ytq (h.below hW) g t hti x hx _ vE hr hlg ups hch
 have HC:Hid (∀ W2,Below w.heap.size w W2→Abx W2 s q t x ups∧Ab W2 s t x ups (fun _=>False) W2 0 0 W2):=fun W2 hW=>by
  refine ⟨⟨h.below hW,g,hh,hc,ht,hx,hlast,fun e hm=>?_,hall,hroom⟩,Ab.start (h.below hW) g hx⟩;obtain ⟨p,hp,rfl⟩:=List.mem_map.1 (hch.mem e hm);obtain ⟨i,hi,rfl⟩:=List.getElem_of_mem hp;obtain ⟨_,_,_,_,_,h4,h5,_⟩:=g.logd.at' i hi;exact ⟨h4,Yts h5⟩
 have HP:Hid (∀ q',w.heap.size≤q'→∀ tag,s.blk tag≠some q'):=fun q' hq' tag ht'=>by have:=h.lt tag _ ht';omega
 have HG:Hid (∀ W2,Below w.heap.size w W2→Yab w W2 s s):=fun W2 hW=>Yab.of_below h g hW
 obtain ⟨es,hes⟩:∃ es,es=ups:=⟨_,rfl⟩
 rw [←hes] at KB HC ⊢
 clear hes
 generalize hkb:s.kb=kb at KE KB ⊢
 clear h g hh hc hall hch
 go_enter func299,ntmps299
 go_wp2_with (first
  | (go_at_call 290;go_must (
   refine KE.out.mono ?_;rintro e w1 ⟨vE,rfl,hr1,hb1⟩;have H1:Hid (w1.ownsRow w.heap.size 152 9 vE s.ents.length (Ybf s.ents)∧Below w.heap.size w w1):=⟨hr1,hb1⟩;clear hr1 hb1))
  | (go_at_call 305;go_must (
   refine (KB.out w1 vE H1.out.2 H1.out.1).mono ?_;rintro e w2 ⟨v,rfl,hr2,hb2⟩;obtain ⟨p,cap,rfl,hmax⟩:=Ya6 hr2;have HB2:Hid (Below w.heap.size w w2):=H1.out.2.trans (hb2.mono H1.out.2.size);have HROW:Hid (w2.ownsRow w.heap.size 152 9 (.slice p es.length cap) es.length (Ybf es)):=Yfg hr2 H1.out.2.size;have HAB:Hid (Abx w2 s q t x es∧Ab w2 s t x es (fun _=>False) w2 0 0 w2):=HC.out w2 (H1.out.2.trans (hb2.mono H1.out.2.size));clear hr2 hb2 hmax)))
 have helb:es.length≤391:=by have:=HAB.out.1.room;omega
 go_loopw [17] (fun iv wr=>∃ i:Nat,i≤es.length∧iv=.int .i64 i∧Ab w2 s t x es (fun _=>False) w2 i i wr) (fun iv _=>es.length - (intOf iv).toNat)
 case atStart=>exact ⟨0,by omega,rfl,HAB.out.2⟩
 case round=>
  obtain ⟨i,hi,rfl,hab⟩:=hrel;have HA:=Yh hab;clear hab;by_cases hlt:i<es.length
  ·have hlt':(i:Int)<(es.length:Int):=by omega
   obtain ⟨gE,cap',he⟩:=Ybn HROW.out (by omega);simp only [Value.slice.injEq] at he;obtain ⟨rfl,-,rfl⟩:=he;have hgE:=HROW.out.lt gE rfl;have hrw:wr.ownsRow w.heap.size 152 9 (.slice (some ⟨gE,0,none⟩) es.length cap) es.length (Ybf es):=by
    obtain ⟨s',x',_,_,_,h2⟩:=HA.out;refine Yda HROW.out (fun k hk=>?_);have hkk:k=gE:=by simpa [Value.ownBlock] using hk.symm
    subst hkk;exact h2.off k hgE.2 (HP.out k hgE.1)
   have hget:es[i]? = some es[i]:=List.getElem?_eq_getElem hlt;have a0:=Yal hrw (Ybx es i _ hget 0 (.int .i64 es[i].kind) rfl);have a1:=Yal hrw (Ybx es i _ hget 1 (.int .i64 es[i].tx) rfl);have a2:=Yal hrw (Ybx es i _ hget 2 (.int .i64 es[i].prev) rfl);have a3:=Yal hrw (Ybx es i _ hget 3 (.int .i64 es[i].next) rfl);have a4:=Yal hrw (Ybx es i _ hget 4 (.string es[i].key) rfl);have a5:=Yal hrw (Ybx es i _ hget 5 (.bool es[i].oldIs) rfl);have a6:=Yal hrw (Ybx es i _ hget 6 (.string es[i].old) rfl);have a7:=Yal hrw (Ybx es i _ hget 7 (.bool es[i].newIs) rfl);have a8:=Yal hrw (Ybx es i _ hget 8 (.string es[i].new) rfl);rw [Nat.add_zero] at a0;have hmem:es[i]∈es:=List.getElem_mem hlt;obtain ⟨hfit,hnrm⟩:=HAB.out.1.fits es[i] hmem;have KN:Hid (∀ (V:Nat→Prop) (w0 W:World),Ab w2 s t x es V w0 i i W→Calls prog 288 #[.pointer (some ⟨kb,0,none⟩),.int .i64 t,.agg #[.int .i64 2,.int .i64 0,.int .i64 0,.int .i64 es[i].prev,.string es[i].key,.bool false,.string ByteArray.empty,.bool es[i].oldIs,.string es[i].old]] W fun r w'=>r=.returned (.tuple #[])∧Ab w2 s t x es V w0 (i+1) i w'):=fun V w0 W hW=>by
    rw [←hkb];exact HAB.out.1.enter hlt hW
   have KS:Hid (∀ (V:Nat→Prop) (w0 W:World),Ab w2 s t x es V w0 (i+1) i W→Calls prog 80 #[.pointer (some ⟨kb,2,none⟩),.string es[i].key,.agg #[.bool es[i].oldIs,.string es[i].old]] W fun r w'=>r=.returned (.tuple #[])∧Ab w2 s t x es V w0 (i+1) (i+1) w'):=fun V w0 W hW=>by
    rw [←hkb];exact HAB.out.1.set hlt hW
   clear hrw hget hfit hnrm hmem;generalize es[i]=e at a0 a1 a2 a3 a4 a5 a6 a7 a8 KN KS;obtain ⟨kind,tx,prev,next,key,oldIs,old,newIs,new⟩:=e;simp only at a0 a1 a2 a3 a4 a5 a6 a7 a8 KN KS;obtain ⟨W3,hW3⟩:∃ W3,W3=wr.alloc (.cells #[.int .i64 kind,.int .i64 tx,.int .i64 prev,.int .i64 next,.string key,.bool oldIs,.string old,.bool newIs,.string new] 152):=⟨_,rfl⟩;have HV:Hid (Ab w2 s t x es (fun q=>q=wr.heap.size) W3 i i W3):=by rw [hW3];exact HA.out.var _
   have HN3:Hid (W3.heap[wr.heap.size]? = some (.cells #[.int .i64 kind,.int .i64 tx,.int .i64 prev,.int .i64 next,.string key,.bool oldIs,.string old,.bool newIs,.string new] 152 (0,0))):=by rw [hW3];exact heap_alloc_new wr _
   have HCL:Hid (∀ W n j,Ab w2 s t x es (fun q=>q=wr.heap.size) W3 n j W→W.cell? ⟨wr.heap.size,2,none⟩=some (.int .i64 prev)∧W.cell? ⟨wr.heap.size,4,none⟩=some (.string key)∧W.cell? ⟨wr.heap.size,5,none⟩=some (.bool oldIs)∧W.cell? ⟨wr.heap.size,6,none⟩=some (.string old)):=fun W n j hW=>by
    have hq:=(hW.kept rfl).trans HN3.out;exact ⟨Yaa (j:=2) hq rfl,Yaa (j:=4) hq rfl,Yaa (j:=5) hq rfl,Yaa (j:=6) hq rfl⟩
   obtain ⟨b2,b4,b5,b6⟩:=HCL.out W3 i i HV.out;go_upto_region 4 with fail
   rw [←hW3];clear hW3 a0 a1 a2 a3 a4 a5 a6 a7 a8;go_region_held3 (fun w'=>w'.cell? ⟨wr.heap.size,2,none⟩=some (.int .i64 prev)∧w'.cell? ⟨wr.heap.size,4,none⟩=some (.string key)∧w'.cell? ⟨wr.heap.size,5,none⟩=some (.bool oldIs)∧w'.cell? ⟨wr.heap.size,6,none⟩=some (.string old))
    (go_keep)
    (first
     | (go_at_call 288;go_must (
      refine (KN.out _ _ _ HV.out.drew).mono ?_;rintro e w4 ⟨rfl,hr4⟩;have H4:=Yh hr4;obtain ⟨d2,d4,d5,d6⟩:=HCL.out w4 _ _ hr4;clear hr4)))
   all_goals
    go_wp2;go_region_held3 (fun w'=>w'.cell? ⟨wr.heap.size,4,none⟩=some (.string key)∧w'.cell? ⟨wr.heap.size,5,none⟩=some (.bool oldIs)∧w'.cell? ⟨wr.heap.size,6,none⟩=some (.string old))
     (go_keep)
     (first
      | (go_at_call 80;go_must (
       refine (KS.out _ _ _ H4.out.drew).mono ?_;rintro e w5 ⟨rfl,hr5⟩;have H5:=Yh hr5;obtain ⟨f2,f4,f5,f6⟩:=HCL.out w5 _ _ hr5;clear hr5)))
    all_goals
     go_wp2;exact ⟨⟨i+1,by omega,by simp,H5.out.free⟩,by simp [intOf];omega⟩
  ·obtain rfl:i=es.length:=by omega
   have KN:Hid (Calls prog 288 #[.pointer (some ⟨kb,0,none⟩),.int .i64 t,.agg #[.int .i64 4,.int .i64 0,.int .i64 0,.int .i64 0,.string ByteArray.empty,.bool false,.string ByteArray.empty,.bool false,.string ByteArray.empty]] wr fun r w'=>r=.returned (.tuple #[])∧Ab w2 s t x es (fun _=>False) w2 (es.length+1) es.length w'):=by
    rw [←hkb];exact HAB.out.1.close HA.out
   have HFN:Hid (∀ W n,(n=if es=[] then 0 else es.length+1)→Ab w2 s t x es (fun _=>False) w2 n es.length W→W.cell? ⟨kb,5,none⟩=some (.map (some s.mo.b))∧∃ w',(Builtin.delete_ #[227,3] 0 #[.map (some s.mo.b),.int .i64 t]).run prog W=.ok (.tuple #[]) w'∧Ytt w s q t x.last es w'):=fun W n hn hW=>by
    obtain ⟨b1,w',b2,s',b3,b5,b6⟩:=HAB.out.1.fin hn hW;rw [hkb] at b1;exact ⟨b1,w',b2,s',b3,(HG.out w2 HB2.out).trans b5,b6⟩
   by_cases h0:es.length=0
   ·obtain ⟨c5,w3,hdel,hfin⟩:=HFN.out wr es.length (by rw [if_pos (List.length_eq_zero_iff.1 h0),h0]) HA.out
    have HX:=Yh hfin;have hgt:¬(0:Int)<(es.length:Int):=by omega
    clear hfin KN;go_wp2;go_end0;exact ⟨rfl,HX.out⟩
   ·have hgt:(0:Int)<(es.length:Int):=by omega
    go_wp2_with (first
     | (go_at_call 288;go_must (
      refine KN.out.mono ?_;rintro e w3 ⟨rfl,hr3⟩;obtain ⟨c5,w4,hdel,hfin⟩:=HFN.out w3 _ (by rw [if_neg (fun e=>h0 (by rw [e];rfl))]) hr3;have HX:=Yh hfin;clear hr3 hfin)))
    go_end0;exact ⟨rfl,HX.out⟩
structure TxP where
 read:ByteArray→Int
 wrote:ByteArray→Option (Bool×ByteArray)
 ups:List Yac
 (last n:Nat)
def TxP.hold (p:TxP) (key:ByteArray):Int:=if (p.wrote key).isSome then 2 else p.read key
def TxP.new:TxP:=⟨fun _=>0,fun _=>none,[],0,0⟩
structure Sp where
 comm:ByteArray→Bool×ByteArray
 tx:Int→Option TxP
 (next acts nopen:Nat)
 log:List Yac
def Ydk:Option TxP→Nat
 | none=>0
 | some p=>p.n+1
def Ydu (f:Int→Option TxP):Nat→Nat
 | 0=>0
 | n+1=>Ydu f n+Ydk (f ((n:Int)+1))
theorem Yop (f g:Int→Option TxP):∀ n,(∀ i:Nat,i<n→f ((i:Int)+1)=g ((i:Int)+1))→Ydu f n=Ydu g n
 | 0,_=>rfl
 | n+1,h=>by
  show Ydu f n+Ydk (f ((n:Int)+1))=Ydu g n+Ydk (g ((n:Int)+1));rw [Yop f g n (fun i hi=>h i (by omega)),h n (by omega)]
theorem Yji (f:Int→Option TxP) (t:Int) (o:Option TxP):∀ n:Nat,1≤t→t≤n→Ydu (fun u=>if u=t then o else f u) n+Ydk (f t)=Ydu f n+Ydk o
 | 0,h1,h2=>by omega
 | n+1,h1,h2=>by
  show Ydu _ n+Ydk (if ((n:Int)+1)=t then o else f ((n:Int)+1))+Ydk (f t)=Ydu f n+Ydk (f ((n:Int)+1))+Ydk o;by_cases ht:((n:Int)+1)=t
  ·rw [if_pos ht,Yop _ f n (fun i hi=>by rw [if_neg (by omega)]),ht];omega
  ·have:=Yji f t o n h1 (by omega)
   rw [if_neg ht];omega
structure Wf (k:Bool) (P:Sp):Prop where
 fut:∀ t:Int,(P.next:Int)<t→P.tx t=none
 pos:∀ t p,P.tx t=some p→0<t
 one:∀ t u p p' key,P.tx t=some p→P.tx u=some p'→(p.wrote key).isSome=true→(p'.wrote key).isSome=true→t=u
 nrm:(∀ key,Ydj (P.comm key)=P.comm key)∧∀ t p key c,P.tx t=some p→p.wrote key=some c→Ydj c=c
 rd:∀ t p key,P.tx t=some p→p.read key=0∨p.read key=1
 last:∀ t p,P.tx t=some p→p.last≤P.log.length
 ups:k=true→∀ t p,P.tx t=some p→Ydt P.log p.last p.ups∧p.n=p.ups.length∧(∀ e∈p.ups,(p.wrote e.key).isSome=true)∧∀ key,Yd4 (p.ups.map Ycw) (fun k=>(p.wrote k).getD (P.comm k)) key=P.comm key
 bare:k=false→∀ t p,P.tx t=some p→p.last=0∧p.ups=[]
 cost:P.log.length+Ydu P.tx P.next≤2*P.acts
 acts:P.acts≤120
 nx:P.next≤P.acts
 ksz:(∀ key,(P.comm key).1=true→1≤key.size∧key.size≤8)∧∀ t p key,P.tx t=some p→(p.wrote key).isSome=true→1≤key.size∧key.size≤8
variable {P:Sp}
theorem Wf.tle (h:Wf k P) {t:Int} {p:TxP} (hp:P.tx t=some p):1≤t∧t≤P.next∧t<256:=by
 have h1:=h.pos t p hp;have h2:¬(P.next:Int)<t:=fun h3=>by rw [h.fut t h3] at hp;cases hp
 have:=h.acts;have:=h.nx;omega
theorem Wf.room (h:Wf k P) {t:Int} {p:TxP} (hp:P.tx t=some p):P.log.length+p.n+1≤240:=by
 obtain ⟨h1,h2,_⟩:=h.tle hp;have h3:=Yji P.tx t none P.next h1 h2;rw [hp] at h3;simp only [Ydk] at h3;have:=h.cost;have:=h.acts;omega
structure Rel (k:Bool) (s:Sv) (P:Sp):Prop where
 wf:Wf k P
 tx0:∀ t,P.tx t=none→s.tx t=none
 tx1:∀ t p,P.tx t=some p→∃ x,s.tx t=some x∧x.last=p.last∧∀ key,Ybc x.H key=p.hold key
 nums:s.begun=P.next∧s.acts=P.acts∧s.ents=P.log
 cnt:Maps.size s.mo.M=P.nopen
 buck:Ygd s
 steal:k=true→(∀ t p key c,P.tx t=some p→p.wrote key=some c→Yag (s.cont (Yae key)) key=c)∧∀ key,(∀ t p,P.tx t=some p→p.wrote key=none)→Yag (s.cont (Yae key)) key=P.comm key
 beside:k=false→(∃ md,Ya7 s md)∧(∀ t,P.tx t=none→s.mt t=none)∧(∀ t p,P.tx t=some p→(∀ key,s.own t key=p.wrote key)∧∀ m,s.mt t=some m→m.n≤p.n)∧∀ key,Yag (s.cont (Yae key)) key=P.comm key
theorem Rel.slen (h:Rel k s P) (g:Yar s):s.len=P.log.length:=by
 rw [←h.nums.2.2,Sv.ents,List.length_map,g.logd.len]
def taken (P:Sp) (n:Nat) (key:ByteArray):Prop:=Yae key=n∧((P.comm key).1=true∨∃ t p,P.tx t=some p∧(p.wrote key).isSome=true)
theorem Yhp {ps:Yaf}:(Yag ps key).1=true↔∃ p∈ps,p.1=key:=by
 rcases Yl2 ps key with ⟨p,hp,h1,h2⟩ | ⟨h1,h2⟩
 ·rw [h2];exact ⟨fun _=>⟨p,hp,h1⟩,fun _=>rfl⟩
 ·rw [h2];exact ⟨(fun h=>by cases h),fun ⟨p,hp,he⟩=>absurd he (h1 p hp)⟩
variable {p:TxP}
theorem TxP.hold2 (h:p.read key=0∨p.read key=1):p.hold key=2↔(p.wrote key).isSome=true:=by
 unfold TxP.hold;by_cases hw:(p.wrote key).isSome=true
 ·simp [hw]
 ·rw [if_neg hw]
  refine ⟨fun h2=>?_,fun h2=>absurd h2 hw⟩;rcases h with h3 | h3 <;> omega
theorem Rel.keptTaken (h:Rel k s P) (n:Nat) (hn:n<8) (key:ByteArray):Yfb s n key↔taken P n key:=by
 have hheld:(∃ t x,s.tx t=some x∧Ybc x.H key=2)↔∃ t p,P.tx t=some p∧p.hold key=2:=by
  constructor
  ·rintro ⟨t,x,hx,h1⟩
   cases hp:P.tx t with
   | none=>rw [h.tx0 t hp] at hx;cases hx
   | some p=>
    obtain ⟨x',hx',_,h2⟩:=h.tx1 t p hp;rw [hx] at hx';simp only [Option.some.injEq] at hx';subst hx';exact ⟨t,p,hp,by rw [←h2];exact h1⟩
  ·rintro ⟨t,p,hp,h1⟩
   obtain ⟨x,hx,_,h2⟩:=h.tx1 t p hp;exact ⟨t,x,hx,by rw [h2];exact h1⟩
 have hin:(∃ p∈s.cont n,p.1=key)→Yae key=n:=fun ⟨p,hp,he⟩=>by rw [←he];exact h.buck n hn p hp
 have hw2:∀ t p,P.tx t=some p→(p.hold key=2↔(p.wrote key).isSome=true):=fun t p hp=>TxP.hold2 (h.wf.rd t p key hp)
 unfold Yfb;rw [hheld];unfold taken;have key2:Yae key=n→((∃ p∈s.cont n,p.1=key)↔(Yag (s.cont (Yae key)) key).1=true):=fun e=>by rw [Yhp,e]
 have hno:(¬∃ t p,P.tx t=some p∧(p.wrote key).isSome=true)→Yag (s.cont (Yae key)) key=P.comm key:=fun hw=>by
  have hn':∀ t p,P.tx t=some p→p.wrote key=none:=fun t p hp=>by
   cases hq:p.wrote key with
   | none=>rfl
   | some c=>exact absurd ⟨t,p,hp,by rw [hq];rfl⟩ hw
  cases k with
  | true=>exact (h.steal rfl).2 key hn'
  | false=>exact (h.beside rfl).2.2.2 key
 constructor
 ·rintro (h1 | ⟨h1,t,p,hp,h2⟩)
  ·have hb:=hin h1
   refine ⟨hb,?_⟩;by_cases hw:∃ t p,P.tx t=some p∧(p.wrote key).isSome=true
   ·exact .inr hw
   ·refine .inl ?_
    have hu:=(key2 hb).1 h1;rw [hno hw] at hu;exact hu
  ·exact ⟨h1,.inr ⟨t,p,hp,(hw2 t p hp).1 h2⟩⟩
 ·rintro ⟨hb,h1⟩
  by_cases hw:∃ t p,P.tx t=some p∧(p.wrote key).isSome=true
  ·obtain ⟨t,p,hp,h2⟩:=hw
   exact .inr ⟨hb,t,p,hp,(hw2 t p hp).2 h2⟩
  ·refine .inl ((key2 hb).2 ?_)
   rcases h1 with h1 | h1
   ·rw [hno hw];exact h1
   ·exact absurd h1 hw
def Yih (P:Sp) (key:ByteArray):Prop:=∃ L:List ByteArray,L.Nodup∧(∀ k,k∈L↔taken P (Yae key) k)∧(key∈L∨L.length<4)
theorem Rel.room (h:Rel k s P) (key:ByteArray):Ygt s key↔Yih P key:=by
 unfold Ygt Yih;have e:∀ j,Yfb s (Yae key) j↔taken P (Yae key) j:=fun j=>h.keptTaken _ (Ycy key) j
 simp only [e]
def Yb6 (w:World) (a:Nat) (k:Bool) (P:Sp) (X:Nat→Prop) (q:Nat):Prop:=∃ s,Yc5 w a (Yb8 k) s q∧Rel k s P∧∀ x,X x→x<w.heap.size∧∀ tag,s.blk tag≠some x
def Ycv (w w':World) (a:Nat) (k:Bool) (P:Sp) (X:Nat→Prop) (q:Nat):Prop:=Yb6 w' a k P X q∧Below 0 w w'∧∀ x,X x→w'.heap[x]? = w.heap[x]?
theorem Ydp {P':Sp} {q':Nat} (h:Yc5 w a (Yb8 k) s q) (hX:∀ x,X x→x<w.heap.size∧∀ tag,s.blk tag≠some x) (g:Yab w w' s s') (hh:Yao s' q') (hc:Cap s') (hk:s'.kb=s.kb) (hr:Rel k s' P'):Ycv w w' a k P' X q':=by
 refine ⟨⟨s',h.go g hh hc hk,hr,fun x hx=>?_⟩,g.below,fun x hx=>g.off x (hX x hx).1 (hX x hx).2⟩;obtain ⟨h1,h2⟩:=hX x hx;refine ⟨by have:=g.below.size;omega,fun tag ht=>?_⟩;rcases g.grown tag x ht with h3 | h3
 ·exact h2 tag h3
 ·omega
theorem Rel.paged (h:Rel k s P) (p:Yau s s'):Rel k s' P:=by
 have hm:∀ md,Ya7 s md→Ya7 s' md:=fun md hmd=>p.made hmd
 obtain ⟨Q,m,rfl,_⟩:=p;exact ⟨h.wf,h.tx0,h.tx1,h.nums,h.cnt,h.buck,h.steal,fun hk=>⟨(h.beside hk).1.imp hm,(h.beside hk).2⟩⟩
theorem Ykn (h:Rel k s P) {u:Int} {y:TxE} (hy:s.tx u=some y):∃ p,P.tx u=some p∧∀ key,Ybc y.H key=p.hold key:=by
 cases hp:P.tx u with
 | none=>rw [h.tx0 u hp] at hy;cases hy
 | some p=>
  obtain ⟨y',hy',_,h3⟩:=h.tx1 u p hp;rw [hy] at hy';simp only [Option.some.injEq] at hy';subst hy';exact ⟨p,rfl,h3⟩
theorem Rel.isOpen (h:Rel k s P) (t:Int):(s.tx t).isSome=(P.tx t).isSome:=by
 cases hp:P.tx t with
 | none=>rw [h.tx0 t hp];rfl
 | some p=>obtain ⟨x,hx,_⟩:=h.tx1 t p hp;rw [hx];rfl
def Sp.empty:Sp:=⟨fun _=>(false,ByteArray.empty),fun _=>none,0,0,0,[]⟩
theorem Y11 (k:Bool):Wf k Sp.empty:=
 ⟨fun _ _=>rfl,(fun t p hp=>by cases hp),(fun t u p p' key hp=>by cases hp),⟨fun key=>rfl,(fun t p key c hp=>by cases hp)⟩,(fun t p key hp=>by cases hp),(fun t p hp=>by cases hp),(fun _ t p hp=>by cases hp),(fun _ t p hp=>by cases hp),Nat.le_refl _,Nat.zero_le _,Nat.le_refl _,⟨(fun key hk=>by cases hk),(fun t p key hp=>by cases hp)⟩⟩
theorem Y12 (h:Yhn w w' a k s) (hb:Below w.heap.size w w'):Yb6 w' a k Sp.empty (fun x=>x<w.heap.size) 0:=by
 refine ⟨s,h.live,?_,fun x hx=>⟨by have:=hb.size;omega,fun tag ht=>by have:=h.new.2 tag x ht;omega⟩⟩;obtain ⟨D,ty,kb,vb,db,mp,mc,mo,made,hD,rfl,hmd⟩:=h.plain;refine ⟨Y11 k,fun t _=>rfl,(fun t p hp=>by cases hp),⟨rfl,rfl,rfl⟩,rfl,(fun n _ p hp=>by cases hp),fun hk=>⟨(fun t p key c hp=>by cases hp),fun key _=>rfl⟩,fun hk=>?_⟩;subst hk;obtain ⟨m,rfl⟩:=hmd;exact ⟨⟨⟨m,0,.map []⟩,rfl,(fun t m hm=>by cases hm),fun t _ zd=>Maps.atKey_of_not_has (by simp [Maps.has_eq]) zd,(fun t m hm=>by cases hm),Nat.le_refl _⟩,fun t _=>rfl,(fun t p hp=>by cases hp),fun key=>rfl⟩
def Sp.begin (P:Sp):Sp:={ P with tx:=fun u=>if u=(P.next:Int)+1 then some TxP.new else P.tx u,next:=P.next+1,acts:=P.acts+1,nopen:=P.nopen+1 }
theorem Yey (hp:P.begin.tx t=some p):(t=(P.next:Int)+1∧p=TxP.new)∨(t≠(P.next:Int)+1∧P.tx t=some p):=by
 simp only [Sp.begin] at hp;split at hp
 ·rename_i he
  simp only [Option.some.injEq] at hp;exact .inl ⟨he,hp.symm⟩
 ·rename_i he
  exact .inr ⟨he,hp⟩
theorem Y13 (h:Wf k P) (ha:P.acts<120):Wf k P.begin:=by
 refine ⟨fun t ht=>?_,fun t p hp=>?_,fun t u p p' key hp hp' h1 h2=>?_,⟨h.nrm.1,fun t p key c hp hc=>?_⟩,fun t p key hp=>?_,fun t p hp=>?_,fun hk t p hp=>?_,fun hk t p hp=>?_,?_,by show P.acts+1≤120;omega,by have:=h.nx;show P.next+1≤P.acts+1;omega,⟨h.ksz.1,fun t p key hp hw=>?_⟩⟩
 ·have ht':((P.next+1:Nat):Int)<t:=ht
  simp only [Sp.begin];rw [if_neg (by omega)];exact h.fut t (by omega)
 ·rcases Yey hp with ⟨h1,_⟩ | ⟨_,h1⟩
  ·omega
  ·exact h.pos t p h1
 ·rcases Yey hp with ⟨_,rfl⟩ | ⟨_,h3⟩
  ·cases h1
  ·rcases Yey hp' with ⟨_,rfl⟩ | ⟨_,h4⟩
   ·cases h2
   ·exact h.one t u p p' key h3 h4 h1 h2
 ·rcases Yey hp with ⟨_,rfl⟩ | ⟨_,h3⟩
  ·cases hc
  ·exact h.nrm.2 t p key c h3 hc
 ·rcases Yey hp with ⟨_,rfl⟩ | ⟨_,h3⟩
  ·exact .inl rfl
  ·exact h.rd t p key h3
 ·rcases Yey hp with ⟨_,rfl⟩ | ⟨_,h3⟩
  ·exact Nat.zero_le _
  ·exact h.last t p h3
 ·rcases Yey hp with ⟨_,rfl⟩ | ⟨_,h3⟩
  ·exact ⟨rfl,rfl,fun u hu=>(List.not_mem_nil hu).elim,fun key=>rfl⟩
  ·exact h.ups hk t p h3
 ·rcases Yey hp with ⟨_,rfl⟩ | ⟨_,h3⟩
  ·exact ⟨rfl,rfl⟩
  ·exact h.bare hk t p h3
 ·have h1:=h.cost
  show P.log.length+(Ydu P.begin.tx P.next+Ydk (P.begin.tx ((P.next:Int)+1)))≤2*(P.acts+1);rw [Yop P.begin.tx P.tx P.next (fun i hi=>by simp only [Sp.begin];rw [if_neg (by omega)])];have h2:P.begin.tx ((P.next:Int)+1)=some TxP.new:=by simp only [Sp.begin,if_true]
  rw [h2];show P.log.length+(Ydu P.tx P.next+(0+1))≤_;omega
 ·rcases Yey hp with ⟨_,rfl⟩ | ⟨_,h3⟩
  ·cases hw
  ·exact h.ksz.2 t p key h3 hw
theorem Ytu (key:ByteArray):Ybc (.map []) key=0:=by
 unfold Ybc;rw [Maps.atKey_of_not_has (by simp [Maps.has_eq])];rfl
theorem Y14 (L:Yan w s) (g:Yar s) (h:Rel k s P) (ha:P.acts<120) (hb tb:Nat):Rel k (Yct (Yfp s) ((s.begun:Int)+1) hb tb) P.begin:=by
 have hn:=h.nums;have hnone:P.tx ((P.next:Int)+1)=none:=h.wf.fut _ (by omega);have hsn:s.tx ((s.begun:Int)+1)=none:=by rw [hn.1];exact h.tx0 _ hnone
 have hhas:Maps.has s.mo.M (.int .i64 ((s.begun:Int)+1))=false:=by rw [Yhl g,hsn];rfl
 refine ⟨Y13 h.wf ha,fun t ht=>?_,fun t p hp=>?_,⟨by show s.begun+1=P.next+1;rw [hn.1],by show s.acts+1=P.acts+1;rw [hn.2.1],hn.2.2⟩,?_,h.buck,fun hk=>?_,fun hk=>?_⟩
 ·simp only [Sp.begin] at ht
  split at ht
  ·cases ht
  ·rename_i hne
   show (if t=(s.begun:Int)+1 then _ else s.tx t)=none;rw [hn.1,if_neg hne];exact h.tx0 t ht
 ·rcases Yey hp with ⟨he,rfl⟩ | ⟨hne,h3⟩
  ·refine ⟨⟨tb,hb,0,0,.map []⟩,?_,rfl,fun key=>?_⟩
   ·show (if t=(s.begun:Int)+1 then _ else s.tx t)=_
    rw [hn.1,if_pos he]
   ·rw [Ytu];rfl
  ·obtain ⟨x,h1,h2,h4⟩:=h.tx1 t p h3
   refine ⟨x,?_,h2,h4⟩;show (if t=(s.begun:Int)+1 then _ else s.tx t)=_;rw [hn.1,if_neg hne];exact h1
 ·show Maps.size (s.mo.M.put _ _)=P.nopen+1
  rw [Maps.size_put (Yoj L),hhas,h.cnt];rfl
 ·obtain ⟨h2,h3⟩:=h.steal hk
  refine ⟨fun t p key c hp hc=>?_,fun key hno=>h3 key fun t p hp=>hno t p ?_⟩
  ·rcases Yey hp with ⟨_,rfl⟩ | ⟨_,h4⟩
   ·cases hc
   ·exact h2 t p key c h4 hc
  ·simp only [Sp.begin]
   rw [if_neg (fun e=>by rw [e,hnone] at hp;cases hp)];exact hp
 ·obtain ⟨⟨md,h1⟩,h2,h3,h4⟩:=h.beside hk
  refine ⟨⟨md,h1.made,h1.have',h1.lack,fun t m hm=>⟨(h1.cells t m hm).1,by have:=(h1.cells t m hm).2;show m.n≤s.acts+1;omega⟩,by have:=h1.num;show md.n≤s.acts+1;omega⟩,fun t ht=>?_,fun t p hp=>?_,h4⟩
  ·simp only [Sp.begin] at ht
   split at ht
   ·cases ht
   ·exact h2 t ht
  ·rcases Yey hp with ⟨he,rfl⟩ | ⟨_,h5⟩
   ·have hmt:s.mt t=none:=h2 t (by rw [he];exact hnone)
    refine ⟨fun key=>?_,fun m hm=>?_⟩
    ·show (s.mt t).bind _=none
     rw [hmt];rfl
    ·have hm':s.mt t=some m:=hm
     rw [hmt] at hm';cases hm'
   ·exact h3 t p h5
def Ydd (P:Sp):Int:=if 4≤P.nopen then 9 else if 120≤P.acts then 10 else 0
theorem Ytv (S:Yb6 w a k P X q):
 Calls prog 19 #[.pointer (some ⟨a,0,none⟩)] w fun e w'=>(Ydd P=0∧e=.returned (.tuple #[.int .i64 ((P.next:Int)+1),.int .i64 0])∧Ycv w w' a k P.begin X q)∨(Ydd P≠0∧e=.returned (.tuple #[.int .i64 0,.int .i64 (Ydd P)])∧Ycv w w' a k P X q):=by
 obtain ⟨s,L,R,hX⟩:=S
 have hn:=R.nums
 have hnone:P.tx ((P.next:Int)+1)=none:=R.wf.fut _ (by omega)
 have hac:=R.wf.acts
 have hnx:=R.wf.nx
 refine (Yy7 L.lies L.good L.held (by omega) (by rw [hn.1];exact R.tx0 _ hnone) k a L.ca).mono ?_
 rintro e w' ⟨x,y,rfl,hb⟩
 have hc:=R.cnt
 rcases hb with ⟨h1,h2,h3⟩ | ⟨h0,h1,h2,h3⟩ | ⟨h5,h6,h1,hb,tb,h2,h3⟩
 ·have hbp:Ydd P=9:=by unfold Ydd;rw [if_pos (by omega)]
  refine .inr ⟨by omega,?_,?_⟩
  ·rw [hbp];exact h2
  ·subst h3
   exact Ydp L hX (Yab.refl L.lies L.good) L.held L.cap rfl R
 ·have hbp:Ydd P=10:=by unfold Ydd;rw [if_neg (by omega),if_pos (by omega)]
  refine .inr ⟨by omega,?_,?_⟩
  ·rw [hbp];exact h2
  ·subst h3
   exact Ydp L hX (Yab.refl L.lies L.good) L.held L.cap rfl R
 ·have hbp:Ydd P=0:=by unfold Ydd;rw [if_neg (by omega),if_neg (by omega)]
  rw [hn.1] at h1;refine .inl ⟨hbp,h1,Ydp L hX h2 h3 (fun n hn'=>?_) rfl (Y14 L.lies L.good R (by omega) hb tb)⟩;obtain ⟨l,l1,l2⟩:=L.cap n hn';refine ⟨l,l1,fun key hk=>l2 key ?_⟩;rcases hk with h5 | ⟨h5,t,x,hx,h6⟩
  ·exact .inl h5
  ·refine .inr ⟨h5,t,x,?_,h6⟩
   have hx':(if t=(s.begun:Int)+1 then some ⟨tb,hb,0,0,.map []⟩ else s.tx t)=some x:=hx;split at hx'
   ·simp only [Option.some.injEq] at hx'
    subst hx';rw [Ytu] at h6;omega
   ·exact hx'
def Ycc (P:Sp) (p:TxP) (key:ByteArray):Bool×ByteArray:=(p.wrote key).getD (P.comm key)
def Yii (P:Sp) (t:Int) (p:TxP) (key:ByteArray) (c:Bool×ByteArray):Yac:=⟨1,t,(p.last:Int),0,key,(Ycc P p key).1,(Ycc P p key).2,c.1,c.2⟩
def TxP.put (k:Bool) (p:TxP) (P:Sp) (t:Int) (key:ByteArray) (c:Bool×ByteArray):TxP:=
 { p with wrote:=fun k=>if k=key then some c else p.wrote k,ups:=if k then Yii P t p key c :: p.ups else p.ups,last:=if k then P.log.length+1 else p.last,n:=p.n+1 }
def Sp.write (k:Bool) (P:Sp) (t:Int) (p:TxP) (key:ByteArray) (c:Bool×ByteArray):Sp:=
 { P with tx:=fun u=>if u=t then some (p.put k P t key c) else P.tx u,acts:=P.acts+1,log:=if k then P.log ++ [Yii P t p key c] else P.log }
variable {p':TxP}
theorem Yfe {c:Bool×ByteArray} (hp':(P.write k t p key c).tx u=some p'):(u=t∧p'=p.put k P t key c)∨(u≠t∧P.tx u=some p'):=by
 simp only [Sp.write] at hp';split at hp'
 ·rename_i he
  simp only [Option.some.injEq] at hp';exact .inl ⟨he,hp'.symm⟩
 ·rename_i he
  exact .inr ⟨he,hp'⟩
def Yc0 (P:Sp) (t:Int) (key:ByteArray):Int:=Ya8 (P.tx t).isSome key
def Yec (P:Sp) (t:Int) (key:ByteArray) (change:Bool):Prop:=∃ u p',P.tx u=some p'∧u≠t∧(if change then 1≤p'.hold key else p'.hold key=2)
structure Yez (P:Sp) (t:Int) (p:TxP) (key:ByteArray) (c:Bool×ByteArray):Prop where
 tx:P.tx t=some p
 ksz:1≤key.size∧key.size≤8
 val:c.2.size≤12
 nrm:Ydj c=c
 free:¬Yec P t key true
 acts:P.acts<120
 room:Yih P key
theorem Y15 (h:p.read key=0∨p.read key=1):0≤p.hold key∧p.hold key≤2:=by
 unfold TxP.hold;split
 ·omega
 ·rcases h with h | h <;> omega
theorem Yez.free0 {c:Bool×ByteArray} (m:Yez P t p key c) (h:Wf k P) (u:Int) (p':TxP) (hp':P.tx u=some p') (hu:u≠t):p'.hold key=0:=by
 have h1:=Y15 (h.rd u p' key hp');by_cases h2:1≤p'.hold key
 ·exact absurd ⟨u,p',hp',hu,by simpa using h2⟩ m.free
 ·omega
theorem Yez.others {c:Bool×ByteArray} (m:Yez P t p key c) (h:Wf k P) (u:Int) (p':TxP) (hp':P.tx u=some p') (hu:u≠t):(p'.wrote key).isSome=false:=by
 have h0:=m.free0 h u p' hp' hu;unfold TxP.hold at h0;split at h0
 ·omega
 ·rename_i hns;simpa using hns
theorem Y16 {c:Bool×ByteArray} (h:Wf k P) (m:Yez P t p key c):Wf k (P.write k t p key c):=by
 have hwr:=m.others h;have hlen:P.log.length≤(P.write k t p key c).log.length∧(P.write k t p key c).log.length≤P.log.length+1:=by
  cases k <;> simp [Sp.write]
 refine ⟨fun u hu=>?_,fun u p' hp'=>?_,fun u1 u2 p1 p2 k' hp1 hp2 h1 h2=>?_,⟨h.nrm.1,fun u p' k' c' hp' hc'=>?_⟩,fun u p' k' hp'=>?_,fun u p' hp'=>?_,fun hk u p' hp'=>?_,fun hk u p' hp'=>?_,?_,by have:=m.acts;show P.acts+1≤120;omega,by have:=h.nx;show P.next≤P.acts+1;omega,⟨h.ksz.1,fun u p' k' hp' hw=>?_⟩⟩
 ·simp only [Sp.write]
  have hu':(P.next:Int)<u:=hu;rw [if_neg (fun e=>by have:=h.fut u hu';rw [e,m.tx] at this;cases this)];exact h.fut u hu'
 ·rcases Yfe hp' with ⟨rfl,_⟩ | ⟨_,hp''⟩
  ·exact h.pos u p m.tx
  ·exact h.pos u p' hp''
 ·rcases Yfe hp1 with ⟨rfl,rfl⟩ | ⟨hu1,hp1'⟩
  ·rcases Yfe hp2 with ⟨rfl,rfl⟩ | ⟨hu2,hp2'⟩
   ·rfl
   ·by_cases he:k'=key
    ·subst he;rw [hwr u2 p2 hp2' hu2] at h2;cases h2
    ·simp only [TxP.put,he,if_false] at h1
     exact h.one u1 u2 p p2 k' m.tx hp2' h1 h2
  ·rcases Yfe hp2 with ⟨rfl,rfl⟩ | ⟨hu2,hp2'⟩
   ·by_cases he:k'=key
    ·subst he;rw [hwr u1 p1 hp1' hu1] at h1;cases h1
    ·simp only [TxP.put,he,if_false] at h2
     exact h.one u1 u2 p1 p k' hp1' m.tx h1 h2
   ·exact h.one u1 u2 p1 p2 k' hp1' hp2' h1 h2
 ·rcases Yfe hp' with ⟨rfl,rfl⟩ | ⟨_,hp''⟩
  ·by_cases he:k'=key
   ·simp only [TxP.put,he,if_true,Option.some.injEq] at hc'
    rw [←hc'];exact m.nrm
   ·simp only [TxP.put,he,if_false] at hc'
    exact h.nrm.2 u p k' c' m.tx hc'
  ·exact h.nrm.2 u p' k' c' hp'' hc'
 ·rcases Yfe hp' with ⟨rfl,rfl⟩ | ⟨_,hp''⟩
  ·exact h.rd u p k' m.tx
  ·exact h.rd u p' k' hp''
 ·rcases Yfe hp' with ⟨rfl,rfl⟩ | ⟨_,hp''⟩
  ·cases k with
   | true=>simp [TxP.put,Sp.write]
   | false=>exact h.last u p m.tx
  ·have:=h.last u p' hp'';omega
 ·subst hk
  rcases Yfe hp' with ⟨rfl,rfl⟩ | ⟨_,hp''⟩
  ·obtain ⟨h0,hn,h1,h2⟩:=h.ups rfl u p m.tx
   refine ⟨⟨p.last,by simp [TxP.put],?_,rfl,by have:=h.last u p m.tx;simp [TxP.put];omega,h0.more _⟩,by simp [TxP.put,hn],fun v hv=>?_,fun k'=>?_⟩
   ·show (P.log ++ [_])[P.log.length+1 - 1]? = _
    rw [Nat.add_sub_cancel,List.getElem?_append_right (Nat.le_refl _),Nat.sub_self];rfl
   ·by_cases he:v.key=key
    ·simp [TxP.put,he]
    ·have hv':v∈Yii P u p key c :: p.ups:=hv
     rcases List.mem_cons.1 hv' with e | hv2
     ·rw [e] at he;exact absurd rfl he
     ·simp only [TxP.put,he,if_false];exact h1 v hv2
   ·refine Eq.trans ?_ (h2 k')
    show Yd4 (p.ups.map Ycw) (fun k=>if k=key then Ycc P p key else ((p.put true P u key c).wrote k).getD (P.comm k)) k'=_;refine Yig _ _ _ _ ?_;by_cases he:k'=key
    ·simp [he,Ycc]
    ·simp [TxP.put,he]
  ·obtain ⟨h0,h1⟩:=h.ups rfl u p' hp''
   exact ⟨h0.more _,h1⟩
 ·subst hk
  rcases Yfe hp' with ⟨rfl,rfl⟩ | ⟨_,hp''⟩
  ·exact h.bare rfl u p m.tx
  ·exact h.bare rfl u p' hp''
 ·have h1:=h.cost
  obtain ⟨t1,t2,_⟩:=h.tle m.tx;have h2:=Yji P.tx t (some (p.put k P t key c)) P.next t1 t2;rw [m.tx] at h2;have h3:Ydk (some (p.put k P t key c))=p.n+1+1:=rfl;have h4:Ydk (some p)=p.n+1:=rfl;rw [h3,h4] at h2;show (P.write k t p key c).log.length+Ydu (fun u=>if u=t then some (p.put k P t key c) else P.tx u) P.next≤2*(P.acts+1);omega
 ·rcases Yfe hp' with ⟨rfl,rfl⟩ | ⟨_,hp''⟩
  ·by_cases he:k'=key
   ·rw [he];exact m.ksz
   ·simp only [TxP.put,he,if_false] at hw
    exact h.ksz.2 u p k' m.tx hw
  ·exact h.ksz.2 u p' k' hp'' hw
theorem Yez.wfree {c:Bool×ByteArray} (m:Yez P t p key c) (h:Rel k s P):Ylx s t key c.2:=by
 obtain ⟨x,hx,_,_⟩:=h.tx1 t p m.tx;refine ⟨?_,m.val,fun u y hy hu=>?_,by rw [h.nums.2.1];exact m.acts,(h.room key).2 m.room⟩
 ·have:=m.ksz
  unfold Ya8;rw [hx,if_neg (by simp),if_neg (by omega)]
 ·obtain ⟨p',hp',h3⟩:=Ykn h hy
  rw [h3];exact m.free0 h.wf u p' hp' hu
theorem Y17 (h:Rel k s P) (hh:Yao s q) (hp:P.tx t=some p) {x:TxE} (hx:s.tx t=some x) (key:ByteArray) (c:Bool×ByteArray) (k':ByteArray):Ybc (x.H.put (lit key) (.held (.int .i64 (max (Ybc x.H key) 2)))) k'=(p.put k P t key c).hold k':=by
 obtain ⟨_,h2,h3⟩:=hh t x hx;obtain ⟨x',hx',_,h4⟩:=h.tx1 t p hp;rw [hx] at hx';simp only [Option.some.injEq] at hx';subst hx';rw [Ykh h3];by_cases he:k'=key
 ·have:=(Ylq h2 key).2.2
  rw [if_pos he];unfold TxP.hold TxP.put;simp only [he,if_true,Option.isSome_some];omega
 ·rw [if_neg he,h4]
  unfold TxP.hold TxP.put;simp only [he,if_false]
theorem Ytw {c:Bool×ByteArray} (h:Rel k s P) (hh:Yao s q) (m:Yez P t p key c) (x:TxE) (hx:s.tx t=some x)
 (htx:∃ x',s'.tx=(fun u=>if u=t then some x' else s.tx u)∧x'.last=(p.put k P t key c).last∧x'.H=x.H.put (lit key) (.held (.int .i64 (max (Ybc x.H key) 2)))) (hlog:s'.ents=(P.write k t p key c).log) (hnum:s'.begun=s.begun∧s'.acts=s.acts+1) (hmo:s'.mo=s.mo) (hbk:Ygd s')
 (hst:k=true→(∀ u p' k' c',(P.write k t p key c).tx u=some p'→p'.wrote k'=some c'→Yag (s'.cont (Yae k')) k'=c')∧∀ k',(∀ u p',(P.write k t p key c).tx u=some p'→p'.wrote k'=none)→Yag (s'.cont (Yae k')) k'=P.comm k')
 (hbs:k=false→(∃ md,Ya7 s' md)∧(∀ u,(P.write k t p key c).tx u=none→s'.mt u=none)∧(∀ u p',(P.write k t p key c).tx u=some p'→(∀ k',s'.own u k'=p'.wrote k')∧∀ m,s'.mt u=some m→m.n≤p'.n)∧∀ k',Yag (s'.cont (Yae k')) k'=P.comm k'):Rel k s' (P.write k t p key c):=by
 obtain ⟨x',htx',hlast,hH⟩:=htx
 refine ⟨Y16 h.wf m,fun u hu=>?_,fun u p' hp'=>?_,⟨by rw [hnum.1];exact h.nums.1,by rw [hnum.2,h.nums.2.1];rfl,hlog⟩,by rw [hmo];exact h.cnt,hbk,hst,hbs⟩
 ·simp only [Sp.write] at hu
  split at hu
  ·cases hu
  ·rename_i hne
   rw [htx'];show (if u=t then _ else s.tx u)=none;rw [if_neg hne];exact h.tx0 u hu
 ·rcases Yfe hp' with ⟨rfl,rfl⟩ | ⟨hu,hp''⟩
  ·refine ⟨x',by rw [htx'];simp,hlast,fun k'=>?_⟩
   rw [hH];exact Y17 h hh m.tx hx key c k'
  ·obtain ⟨y,h1,h2,h3⟩:=h.tx1 u p' hp''
   exact ⟨y,by rw [htx'];show (if u=t then _ else s.tx u)=_;rw [if_neg hu];exact h1,h2,h3⟩
theorem Ytx (hc:Cap s) (hr:Ygt s key) (hk:∀ n k,n<8→Yfb s' n k→Yfb s n k∨(k=key∧n=Yae key)):Cap s':=fun n hn=>by
 obtain ⟨l,l1,l2⟩:=hc n hn;by_cases hb:n=Yae key
 ·obtain ⟨L,m1,m2,m3⟩:=hr
  rcases m3 with m3 | m3
  ·refine ⟨l,l1,fun k hk'=>?_⟩
   rcases hk n k hn hk' with h1 | ⟨rfl,_⟩
   ·exact l2 k h1
   ·exact l2 _ (by rw [hb];exact (m2 _).1 m3)
  ·refine ⟨key :: L,by simp;omega,fun k hk'=>?_⟩
   rcases hk n k hn hk' with h1 | ⟨rfl,_⟩
   ·exact List.mem_cons_of_mem _ ((m2 k).2 (by rw [←hb];exact h1))
   ·simp
 ·refine ⟨l,l1,fun k hk'=>?_⟩
  rcases hk n k hn hk' with h1 | ⟨_,h1⟩
  ·exact l2 k h1
  ·exact absurd h1 hb
def WP (P:Sp) (t:Int) (key val:ByteArray) (r:Int):Prop:=
 (Yc0 P t key≠0∧r=Yc0 P t key)∨(Yc0 P t key=0∧12<val.size∧r=7)∨(Yc0 P t key=0∧val.size≤12∧Yec P t key true∧r=8) ∨
 (Yc0 P t key=0∧val.size≤12∧¬Yec P t key true∧(120≤P.acts∨¬Yih P key)∧r=10)
theorem Rel.werr (h:Rel k s P) {t:Int} {key val:ByteArray} {r:Int} (hw:WP P t key val r):Yja s t key val r:=by
 have hn:Ya8 (s.tx t).isSome key=Yc0 P t key:=by rw [h.isOpen];rfl
 unfold Yja;rw [hn];rcases hw with ⟨h1,h2⟩ | ⟨h1,h2,h3⟩ | ⟨h1,h2,⟨u,p',hp',hu,h3⟩,h4⟩ | ⟨h1,h2,h3,h4,h5⟩
 ·exact .inl ⟨h1,h2⟩
 ·exact .inr (.inl ⟨h1,h2,h3⟩)
 ·obtain ⟨y,hy,_,h5⟩:=h.tx1 u p' hp'
  exact .inr (.inr (.inl ⟨h1,h2,⟨u,y,hy,hu,by rw [h5];simpa using h3⟩,h4⟩))
 ·refine .inr (.inr (.inr ⟨h1,h2,fun u y hy hu=>?_,?_,h5⟩))
  ·obtain ⟨p',hp',h6⟩:=Ykn h hy
   rw [h6];by_cases h7:1≤p'.hold key
   ·exact absurd ⟨u,p',hp',hu,by simpa using h7⟩ h3
   ·omega
  ·rw [h.nums.2.1]
   exact h4.imp id (fun h6 h7=>h6 ((h.room key).1 h7))
theorem Y18 (S:Yb6 w a k P X q) (hq:q≤2000000000000) (t:Int) (ht:Yax t) (key:ByteArray) (hks:key.size≤140737488355328) (c:Bool×ByteArray) (hvs:c.2.size≤140737488355328) (r:Int) (hw:WP P t key c.2 r):
 Calls prog 42 #[.pointer (some ⟨a,0,none⟩),.int .i64 t,.string key,.agg #[.bool c.1,.string c.2]] w fun e w'=>e=.returned (.int .i64 r)∧Ycv w w' a k P X q:=by
 obtain ⟨s,L,R,hX⟩:=S
 refine (Yzz k L hq t ht key hks c.1 c.2 hvs r (R.werr hw)).mono ?_
 rintro e w' ⟨s',h1,h2,h3⟩
 exact ⟨h1,Ydp L hX h3 (h2.held L.held) (h2.cap L.cap) h2.same.1 (R.paged h2)⟩
theorem Y19 (t:Int) (key:ByteArray) (c:Bool×ByteArray) (hn:Ydj c=c):(∃ p,Yez P t p key c)∨∃ r,WP P t key c.2 r:=by
 by_cases h1:Yc0 P t key=0
 ·by_cases h2:c.2.size≤12
  ·by_cases h3:Yec P t key true
   ·exact .inr ⟨8,.inr (.inr (.inl ⟨h1,h2,h3,rfl⟩))⟩
   ·by_cases h4:P.acts<120∧Yih P key
    ·left
     unfold Yc0 Ya8 at h1;split at h1
     ·omega
     ·rename_i ho
      split at h1
      ·omega
      ·rename_i hz
       cases hp:P.tx t with
       | none=>rw [hp] at ho;exact absurd rfl ho
       | some p=>exact ⟨p,hp,by omega,h2,hn,h3,h4.1,h4.2⟩
    ·refine .inr ⟨10,.inr (.inr (.inr ⟨h1,h2,h3,?_,rfl⟩))⟩
     by_cases h5:Yih P key
     ·by_cases h6:P.acts<120
      ·exact absurd ⟨h6,h5⟩ h4
      ·exact .inl (by omega)
     ·exact .inr h5
  ·exact .inr ⟨7,.inr (.inl ⟨h1,by omega,rfl⟩)⟩
 ·exact .inr ⟨_,.inl ⟨h1,rfl⟩⟩
theorem Y2a (S:Yb6 w a true P X q) (hq:q≤1999999999999) (t:Int) (p:TxP) (key:ByteArray) (c:Bool×ByteArray) (m:Yez P t p key c):
 Calls prog 42 #[.pointer (some ⟨a,0,none⟩),.int .i64 t,.string key,.agg #[.bool c.1,.string c.2]] w fun e w'=>e=.returned (.int .i64 0)∧Ycv w w' a true (P.write true t p key c) X (q+1):=by
 obtain ⟨s,L,R,hX⟩:=S
 obtain ⟨x,hx,hlast,hhold⟩:=R.tx1 t p m.tx
 obtain ⟨ht1,_,ht⟩:=R.wf.tle m.tx
 have hlen:=R.slen L.good
 have hroom:=R.wf.room m.tx
 have hpl:=R.wf.last t p m.tx
 have hf:=m.wfree R
 have hnv:c.1=false→c.2.size=0:=fun h0=>Yon m.nrm h0
 refine (Yz0 L hq (by omega) t ⟨by omega,ht⟩ x hx (by omega) key m.ksz.2 c.1 c.2 hf hnv).mono ?_
 rintro e w' ⟨h1,s1,s',hp,hw,hg,hh⟩
 have R1:=R.paged hp
 have hh1:=hp.held L.held
 have hcap1:=hp.cap L.cap
 have hroom1:=(hp.roomy key).2 hf.room
 have hgood1:∀ n,n<8→Ybi (s1.cont n):=fun n hn'=>by rw [hp.same.2.2.1];exact (L.good.rise n hn').1
 have hx1:s1.tx t=some x:=by rw [hp.same.2.2.2.1];exact hx
 have hkb:s1.kb=s.kb:=hp.same.1
 have hund:∀ k',Yag (s'.cont (Yae k')) k'=if k'=key then c else Yag (s1.cont (Yae k')) k':=fun k'=>by
  rw [hw.cont];by_cases hb:Yae k'=Yae key
  ·simp only [hb,if_true]
   rw [Yic (hgood1 _ (Ycy key))];by_cases he:k'=key
   ·rw [if_pos he,if_pos he];exact m.nrm
   ·rw [if_neg he,if_neg he]
  ·simp only [hb,if_false]
   rw [if_neg (fun e=>hb (by rw [e]))]
 have hwr:=m.others R.wf
 have hold1:Yag (s1.cont (Yae key)) key=Ycc P p key:=by
  obtain ⟨h3,h4⟩:=R1.steal rfl;unfold Ycc
  cases hw0:p.wrote key with
  | some c0=>exact h3 t p key c0 m.tx hw0
  | none=>
   refine h4 key fun u p' hp'=>?_
   by_cases hu:u=t
   ·rw [hu,m.tx] at hp'
    simp only [Option.some.injEq] at hp';rw [←hp'];exact hw0
   ·have:=hwr u p' hp' hu
    cases hq0:p'.wrote key with
    | none=>rfl
    | some c1=>rw [hq0] at this;cases this
 refine ⟨h1,Ydp L hX hg hh ?_ (hw.same.1.trans hkb) ?_⟩
 ·refine Ytx hcap1 hroom1 (fun n k hn' hk=>?_)
  rcases hk with ⟨p',hp',rfl⟩ | ⟨hb,u,y,hy,h2⟩
  ·rw [hw.cont] at hp'
   by_cases hb:n=Yae key
   ·simp only [hb,if_true] at hp'
    rw [←hb] at hp';rcases Yhk (hgood1 n hn') _ _ _ hp' with h3 | ⟨_,h3⟩
    ·exact .inl (.inl ⟨p',h3,rfl⟩)
    ·exact .inr ⟨by rw [h3],hb⟩
   ·simp only [hb,if_false] at hp'
    exact .inl (.inl ⟨p',hp',rfl⟩)
  ·rw [hw.tx] at hy
   by_cases hu:u=t
   ·simp only [hu,if_true,Option.some.injEq] at hy
    subst hy;have h4:Ybc (x.H.put (lit key) (.held (.int .i64 (max (Ybc x.H key) 2)))) k=2:=h2;rw [Ykh (hh1 t x hx1).2.2] at h4;by_cases he:k=key
    ·exact .inr ⟨he,by rw [←he];exact hb.symm⟩
    ·rw [if_neg he] at h4
     exact .inl (.inr ⟨hb,t,x,hx1,h4⟩)
   ·simp only [hu,if_false] at hy
    exact .inl (.inr ⟨hb,u,y,hy,h2⟩)
 ·refine Ytw R1 hh1 m x hx1 ⟨_,hw.tx,?_,rfl⟩ ?_ ⟨hw.nums.2.2.2.2,hw.acts⟩ hw.same.2.2.2.2.1 (fun n hn' p' hp'=>?_) (fun _=>?_) (fun h=>by cases h)
  ·show s1.len+1=P.log.length+1
   rw [←hlen];obtain ⟨Q,mm,rfl,_⟩:=hp;rfl
  ·show List.map (fun p=>p.1) s'.log=P.log ++ [Yii P t p key c]
   rw [hw.log,List.map_append,←R1.nums.2.2];show s1.ents ++ [_]=s1.ents ++ [Yii P t p key c];rw [hold1,hlast];rfl
  ·rw [hw.cont] at hp'
   by_cases hb:n=Yae key
   ·simp only [hb,if_true] at hp'
    rw [←hb] at hp';rcases Yhk (hgood1 n hn') _ _ _ hp' with h3 | ⟨_,h3⟩
    ·exact R1.buck n hn' p' h3
    ·rw [h3,hb]
   ·simp only [hb,if_false] at hp'
    exact R1.buck n hn' p' hp'
  ·obtain ⟨h3,h4⟩:=R1.steal rfl
   refine ⟨fun u p' k' c' hp' hc'=>?_,fun k' hno=>?_⟩
   ·rw [hund]
    simp only [Sp.write] at hp';split at hp'
    ·simp only [Option.some.injEq] at hp'
     subst hp';by_cases he:k'=key
     ·simp only [TxP.put,he,if_true,Option.some.injEq] at hc'
      rw [if_pos he,hc']
     ·simp only [TxP.put,he,if_false] at hc'
      rw [if_neg he];exact h3 t p k' c' m.tx hc'
    ·rename_i hu
     have he:k'≠key:=fun e=>by
      have:=hwr u p' hp' hu;rw [←e,hc'] at this
      cases this
     rw [if_neg he];exact h3 u p' k' c' hp' hc'
   ·have he:k'≠key:=fun e=>by
     have:=hno t (p.put true P t key c) (by simp [Sp.write]);simp [TxP.put,e] at this
    rw [hund,if_neg he];refine h4 k' fun u p' hp'=>?_
    by_cases hu:u=t
    ·have e1:=hno t (p.put true P t key c) (by simp [Sp.write])
     rw [hu,m.tx] at hp';simp only [Option.some.injEq] at hp';subst hp';simpa [TxP.put,he] using e1
    ·exact hno u p' (by simp only [Sp.write];rw [if_neg hu];exact hp')
theorem Yty (hm:Maps.IsMap M) (k key:ByteArray) (is:Bool) (v:ByteArray):Yc4 (M.put (lit k) (.held (.agg #[.bool is,.string v]))) key=if key=k then some (is,v) else Yc4 M key:=by
 by_cases hs:key=k
 ·subst hs
  rw [if_pos rfl];unfold Yc4;rw [Maps.atKey_put_same hm (by simp [WideAt.IsKeyLit])];rfl
 ·rw [if_neg hs]
  unfold Yc4;rw [Maps.atKey_put_other (fun e=>hs (Yhg e))]
theorem Y2b (key:ByteArray):Yc4 (.map []) key=none:=by
 unfold Yc4;rw [Maps.atKey_of_not_has (by simp [Maps.has_eq])];rfl
structure Y2c (s s':Sv) (t:Int) (x:TxE) (key:ByteArray) (c:Bool×ByteArray):Prop where
 cont:s'.cont=s.cont
 tx:s'.tx=fun u=>if u=t then some { x with nH:=x.nH+1,H:=x.H.put (lit key) (.held (.int .i64 (max (Ybc x.H key) 2))) } else s.tx u
 nums:s'.len=s.len∧s'.begun=s.begun∧s'.acts=s.acts+1∧s'.kb=s.kb∧s'.mo=s.mo
 made:∃ md,Ya7 s' md
 own:∀ u k',s'.own u k'=if u=t∧k'=key then some c else s.own u k'
 mt:∀ u,u≠t→s'.mt u=s.mt u
 mn:∀ b,(∀ m,s.mt t=some m→m.n≤b)→∀ m,s'.mt t=some m→m.n≤b+1
 log:s'.ents=s.ents
theorem Y2d (S:Yb6 w a false P X q) (hq:q≤1999999999999) (t:Int) (p:TxP) (key:ByteArray) (c:Bool×ByteArray) (m:Yez P t p key c):
 Calls prog 42 #[.pointer (some ⟨a,0,none⟩),.int .i64 t,.string key,.agg #[.bool c.1,.string c.2]] w fun e w'=>e=.returned (.int .i64 0)∧Ycv w w' a false (P.write false t p key c) X (q+1):=by
 obtain ⟨s,L,R,hX⟩:=S
 obtain ⟨x,hx,hlast,hhold⟩:=R.tx1 t p m.tx
 obtain ⟨ht1,_,ht⟩:=R.wf.tle m.tx
 have hf:=m.wfree R
 obtain ⟨⟨md,hmd⟩,b2,b3,b4⟩:=R.beside rfl
 refine (Yz1 L hmd hq t ⟨by omega,by omega⟩ x hx key m.ksz.2 c.1 c.2 hf).mono ?_
 rintro e w' ⟨h1,s1,s',hp,hw,hg,hh⟩
 have hB:Y2c s s' t x key c:=by
  have hb1:∀ k,s1.blk (.madeOf k)=s.blk (.madeOf k):=fun k=>by obtain ⟨Q,mm,rfl,_⟩:=hp;rfl
  obtain ⟨Q,mm,rfl,hmm⟩:=hp;have L1:Ygs ({ s with pgs:=Q,mp:=mm }:Sv) s' md t x key c.1 c.2:=hw;rcases L1 with ⟨m',hm',rfl,h2⟩ | ⟨hm',nb,rfl,h2⟩
  ·have hM:Maps.IsMap m'.M:=World.ownsMap.isMap (L.lies.comp (.madeOf t) m' hm')
   refine ⟨rfl,rfl,⟨rfl,rfl,rfl,rfl,rfl⟩,⟨_,h2⟩,fun u k'=>?_,fun u hu=>?_,fun b hb m2 hm2=>?_,rfl⟩
   ·show (if u=t then some _ else s.mt u).bind _=_
    by_cases hu:u=t
    ·subst hu
     simp only [if_true,Option.bind_some,true_and];rw [Yty hM];by_cases he:k'=key
     ·rw [if_pos he,if_pos he]
     ·rw [if_neg he,if_neg he]
      have hm2:s.mt u=some m':=hm';simp only [Sv.own,hm2,Option.bind_some]
    ·simp only [hu,if_false,false_and];rfl
   ·show (if u=t then some _ else s.mt u)=_
    rw [if_neg hu]
   ·have hm3:(if t=t then some (⟨m'.b,m'.n+1,m'.M.put (lit key) (.held (.agg #[.bool c.1,.string c.2]))⟩:Ybh) else s.mt t)=some m2:=hm2
    rw [if_pos rfl] at hm3;simp only [Option.some.injEq] at hm3;have:=hb m' hm';rw [←hm3];show m'.n+1≤b+1;omega
  ·refine ⟨rfl,rfl,⟨rfl,rfl,rfl,rfl,rfl⟩,⟨_,h2⟩,fun u k'=>?_,fun u hu=>?_,fun b hb m2 hm2=>?_,rfl⟩
   ·show (if u=t then some _ else (if u=t then some _ else s.mt u)).bind _=_
    by_cases hu:u=t
    ·subst hu
     simp only [if_true,Option.bind_some,true_and];rw [Yty Maps.isMap_empty,Y2b];by_cases he:k'=key
     ·rw [if_pos he,if_pos he]
     ·rw [if_neg he,if_neg he]
      have hm2:s.mt u=none:=hm';simp only [Sv.own,hm2,Option.bind_none]
    ·simp only [hu,if_false,false_and];rfl
   ·show (if u=t then some _ else (if u=t then some _ else s.mt u))=_
    rw [if_neg hu,if_neg hu]
   ·have hm3:(if t=t then some (⟨nb,0+1,(DataW.map []).put (lit key) (.held (.agg #[.bool c.1,.string c.2]))⟩:Ybh) else (if t=t then some ⟨nb,0,.map []⟩ else s.mt t))=some m2:=hm2
    rw [if_pos rfl] at hm3;simp only [Option.some.injEq] at hm3;rw [←hm3];show 0+1≤b+1;omega
 refine ⟨h1,Ydp L hX hg hh ?_ hB.nums.2.2.2.1 ?_⟩
 ·refine Ytx L.cap hf.room (fun n k hn' hk=>?_)
  rcases hk with ⟨p',hp',rfl⟩ | ⟨hb,u,y,hy,h2⟩
  ·rw [hB.cont] at hp'
   exact .inl (.inl ⟨p',hp',rfl⟩)
  ·rw [hB.tx] at hy
   by_cases hu:u=t
   ·simp only [hu,if_true,Option.some.injEq] at hy
    subst hy;have h4:Ybc (x.H.put (lit key) (.held (.int .i64 (max (Ybc x.H key) 2)))) k=2:=h2;rw [Ykh (L.held t x hx).2.2] at h4;by_cases he:k=key
    ·exact .inr ⟨he,by rw [←he];exact hb.symm⟩
    ·rw [if_neg he] at h4
     exact .inl (.inr ⟨hb,t,x,hx,h4⟩)
   ·simp only [hu,if_false] at hy
    exact .inl (.inr ⟨hb,u,y,hy,h2⟩)
 ·refine Ytw R L.held m x hx ⟨_,hB.tx,hlast,rfl⟩ (by rw [hB.log];exact R.nums.2.2) ⟨hB.nums.2.1,hB.nums.2.2.1⟩ hB.nums.2.2.2.2 (fun n hn' p' hp'=>by rw [hB.cont] at hp';exact R.buck n hn' p' hp') (fun h=>by cases h) (fun _=>⟨hB.made,fun u hu=>?_,fun u p' hp'=>?_,fun k'=>by rw [hB.cont];exact b4 k'⟩)
  ·simp only [Sp.write] at hu
   split at hu
   ·cases hu
   ·rename_i hne
    rw [hB.mt u hne];exact b2 u hu
  ·rcases Yfe hp' with ⟨rfl,rfl⟩ | ⟨hne,hp''⟩
   ·refine ⟨fun k'=>?_,hB.mn p.n (b3 u p m.tx).2⟩
    rw [hB.own];simp only [true_and,TxP.put];by_cases hk:k'=key
    ·rw [if_pos hk,if_pos hk]
    ·rw [if_neg hk,if_neg hk];exact (b3 u p m.tx).1 k'
   ·refine ⟨fun k'=>?_,fun m hm=>?_⟩
    ·rw [hB.own,if_neg (fun h=>hne h.1)];exact (b3 u p' hp'').1 k'
    ·rw [hB.mt u hne] at hm;exact (b3 u p' hp'').2 m hm
theorem Y2e (S:Yb6 w a k P X q) (hq:q≤1999999999999) (t:Int) (p:TxP) (key:ByteArray) (c:Bool×ByteArray) (m:Yez P t p key c):
 Calls prog 42 #[.pointer (some ⟨a,0,none⟩),.int .i64 t,.string key,.agg #[.bool c.1,.string c.2]] w fun e w'=>e=.returned (.int .i64 0)∧Ycv w w' a k (P.write k t p key c) X (q+1):=by
 cases k with
 | true=>exact Y2a S hq t p key c m
 | false=>exact Y2d S hq t p key c m
structure Yoq (p:TxP) (ks:List ByteArray):Prop where
 mem:∀ key,key∈ks↔(p.wrote key).isSome=true
 rise:ks.Pairwise (fun a b=>a.toList<b.toList)
 len:ks.length≤p.n
def Yko (P:Sp) (t:Int) (p:TxP) (j:Nat) (key:ByteArray):Yac:=⟨1,t,(Ydc p.last P.log.length j:Int),0,key,(P.comm key).1,(P.comm key).2,(Ycc P p key).1,(Ycc P p key).2⟩
def Yd6 (k:Bool) (P:Sp) (t:Int) (p:TxP) (ks:List ByteArray):List Yac:=
 if k then (if p.last=0 then [] else [{ Yge with tx:=t,prev:=(p.last:Int) }])
 else (if ks=[] then [] else ks.mapIdx (Yko P t p) ++ [{ Yge with tx:=t,prev:=(Ydc p.last P.log.length ks.length:Int) }])
theorem Y2f (h:k=false→ks.length≤p.n):(Yd6 k P t p ks).length≤p.n+1:=by
 unfold Yd6
 cases k with
 | true=>rw [if_pos rfl];split <;> simp
 | false=>
  rw [if_neg (by simp)];have:=h rfl;split
  ·simp
  ·simp;omega
def Sp.commit (k:Bool) (P:Sp) (t:Int) (p:TxP) (ks:List ByteArray):Sp:={ P with comm:=Ycc P p,tx:=fun u=>if u=t then none else P.tx u,nopen:=P.nopen - 1,log:=P.log ++ Yd6 k P t p ks }
theorem Yff (hp':(P.commit k t p ks).tx u=some p'):u≠t∧P.tx u=some p':=by
 simp only [Sp.commit] at hp';split at hp'
 ·cases hp'
 ·rename_i he
  exact ⟨he,hp'⟩
theorem Y2g (h:Wf k P) (hp:P.tx t=some p) (ks:List ByteArray) (hks:k=false→ks.length≤p.n):Wf k (P.commit k t p ks):=by
 refine ⟨fun u hu=>?_,fun u p' hp'=>h.pos u p' (Yff hp').2,fun u1 u2 p1 p2 k' hp1 hp2 h1 h2=>h.one u1 u2 p1 p2 k' (Yff hp1).2 (Yff hp2).2 h1 h2,⟨fun key=>?_,fun u p' k' c' hp' hc'=>h.nrm.2 u p' k' c' (Yff hp').2 hc'⟩,fun u p' k' hp'=>h.rd u p' k' (Yff hp').2,fun u p' hp'=>?_,fun hk u p' hp'=>?_,fun hk u p' hp'=>h.bare hk u p' (Yff hp').2,?_,h.acts,h.nx,⟨fun key hk=>?_,fun u p' k' hp' hw=>h.ksz.2 u p' k' (Yff hp').2 hw⟩⟩
 ·have hu':(P.next:Int)<u:=hu
  simp only [Sp.commit];split
  ·rfl
  ·exact h.fut u hu'
 ·show Ydj (Ycc P p key)=Ycc P p key
  unfold Ycc
  cases hw:p.wrote key with
  | none=>exact h.nrm.1 key
  | some c=>exact h.nrm.2 t p key c hp hw
 ·have:=h.last u p' (Yff hp').2
  show p'.last≤(P.log ++ _).length;rw [List.length_append];omega
 ·obtain ⟨hu,hp''⟩:=Yff hp'
  obtain ⟨h0,hn,h1,h2⟩:=h.ups hk u p' hp'';refine ⟨h0.more _,hn,h1,fun key=>?_⟩;show Yd4 (p'.ups.map Ycw) (fun k=>(p'.wrote k).getD ((p.wrote k).getD (P.comm k))) key=(p.wrote key).getD (P.comm key)
  cases hw:p.wrote key with
  | none=>
   refine Eq.trans (Yig _ _ (fun k=>(p'.wrote k).getD (P.comm k)) _ ?_) (h2 key);simp [hw]
  | some c=>
   have hnw:(p'.wrote key).isSome=false:=by
    cases hq:(p'.wrote key).isSome
    ·rfl
    ·exact absurd (h.one t u p p' key hp hp'' (by rw [hw];rfl) hq).symm hu
   rw [Ykm _ _ _ (fun v hv e=>by
    obtain ⟨d,hd,rfl⟩:=List.mem_map.1 hv;have h5:=h1 d hd;have e':d.key=key:=e;rw [e',hnw] at h5;cases h5)]
   cases hq:p'.wrote key with
   | none=>simp [hw]
   | some c1=>rw [hq] at hnw;cases hnw
 ·have h1:=h.cost
  obtain ⟨t1,t2,_⟩:=h.tle hp;have h2:=Yji P.tx t none P.next t1 t2;rw [hp] at h2;have h3:Ydk none=0:=rfl;have h4:Ydk (some p)=p.n+1:=rfl;rw [h3,h4] at h2;have h5:=Y2f (k:=k) (P:=P) (t:=t) (p:=p) hks;show (P.log ++ Yd6 k P t p ks).length+Ydu (fun u=>if u=t then none else P.tx u) P.next≤2*P.acts;rw [List.length_append];omega
 ·have hk':(Ycc P p key).1=true:=hk
  unfold Ycc at hk'
  cases hw:p.wrote key with
  | none=>rw [hw] at hk';exact h.ksz.1 key hk'
  | some c=>exact h.ksz.2 t p key hp (by rw [hw];rfl)
theorem Yor (L:Yan w s) (g:Yar s) (h:Rel k s P) (hp:P.tx t=some p) (ks:List ByteArray) (hks:k=false→ks.length≤p.n) (htx:s'.tx=fun u=>if u=t then none else s.tx u) (hnum:s'.begun=s.begun∧s'.acts=s.acts) (hlog:s'.ents=P.log ++ Yd6 k P t p ks) (hmo:s'.mo.M=s.mo.M.del (.int .i64 t)) (hbk:Ygd s')
 (hst:k=true→s'.cont=s.cont) (hbs:k=false→(∃ md,Ya7 s' md)∧(s'.mt=fun u=>if u=t then none else s.mt u)∧∀ key,Yag (s'.cont (Yae key)) key=Ycc P p key):Rel k s' (P.commit k t p ks):=by
 obtain ⟨x,hx,_,_⟩:=h.tx1 t p hp
 refine ⟨Y2g h.wf hp ks hks,fun u hu=>?_,fun u p' hp'=>?_,⟨by rw [hnum.1];exact h.nums.1,by rw [hnum.2];exact h.nums.2.1,hlog⟩,?_,hbk,fun hk=>?_,fun hk=>?_⟩
 ·rw [htx]
  show (if u=t then none else s.tx u)=none;by_cases hut:u=t
  ·rw [if_pos hut]
  ·rw [if_neg hut]
   simp only [Sp.commit] at hu;rw [if_neg hut] at hu;exact h.tx0 u hu
 ·obtain ⟨hu,hp''⟩:=Yff hp'
  obtain ⟨y,h1,h2,h3⟩:=h.tx1 u p' hp'';exact ⟨y,by rw [htx];show (if u=t then none else s.tx u)=_;rw [if_neg hu];exact h1,h2,h3⟩
 ·show Maps.size s'.mo.M=P.nopen - 1
  have h1:=Maps.size_del (k:=.int .i64 t) (Yoj L);rw [Yhl g,hx,h.cnt] at h1;simp only [Option.isSome_some,if_true] at h1;rw [hmo];omega
 ·have h2:=hst hk
  obtain ⟨h3,h4⟩:=h.steal hk;refine ⟨fun u p' k' c' hp' hc'=>?_,fun key hno=>?_⟩
  ·rw [h2];exact h3 u p' k' c' (Yff hp').2 hc'
  ·rw [h2]
   show _=Ycc P p key;unfold Ycc
   cases hw:p.wrote key with
   | some c=>exact h3 t p key c hp hw
   | none=>
    refine h4 key fun u p' hp'=>?_
    by_cases hu:u=t
    ·rw [hu,hp] at hp'
     simp only [Option.some.injEq] at hp';rw [←hp'];exact hw
    ·exact hno u p' (by simp only [Sp.commit];rw [if_neg hu];exact hp')
 ·obtain ⟨h1,h2,h3⟩:=hbs hk
  obtain ⟨_,b2,b3,_⟩:=h.beside hk;refine ⟨h1,fun u hu=>?_,fun u p' hp'=>?_,h3⟩
  ·rw [h2]
   show (if u=t then none else s.mt u)=none;by_cases hut:u=t
   ·rw [if_pos hut]
   ·rw [if_neg hut]
    simp only [Sp.commit] at hu;rw [if_neg hut] at hu;exact b2 u hu
  ·obtain ⟨hu,hp''⟩:=Yff hp'
   have e1:s'.mt u=s.mt u:=by rw [h2];show (if u=t then none else s.mt u)=_;rw [if_neg hu]
   refine ⟨fun key=>?_,fun m hm=>(b3 u p' hp'').2 m (by rw [←e1];exact hm)⟩;show (s'.mt u).bind _=_;rw [e1];exact (b3 u p' hp'').1 key
theorem Yl5 (hc:Cap s) (h:∀ n k,n<8→Yfb s' n k→Yfb s n k):Cap s':=fun n hn=>by
 obtain ⟨l,l1,l2⟩:=hc n hn;exact ⟨l,l1,fun k hk=>l2 k (h n k hn hk)⟩
theorem Yos (hc:Cap s) (hct:s'.cont=s.cont) (htx:s'.tx=fun u=>if u=t then none else s.tx u):Cap s':=Yl5 hc fun n k hn' hk=>by
 rcases hk with h3 | ⟨h3,u,y,hy,h4⟩
 ·rw [hct] at h3;exact .inl h3
 ·rw [htx] at hy
  by_cases hu:u=t
  ·simp only [hu,if_true] at hy;cases hy
  ·simp only [hu,if_false] at hy
   exact .inr ⟨h3,u,y,hy,h4⟩
theorem Y2h (S:Yb6 w a true P X q) (t:Int) (p:TxP) (hp:P.tx t=some p):
 Calls prog 21 #[.pointer (some ⟨a,0,none⟩),.int .i64 t] w fun e w'=>e=.returned (.int .i64 0)∧Ycv w w' a true (P.commit true t p []) X q:=by
 obtain ⟨s,L,R,hX⟩:=S
 obtain ⟨x,hx,hlast,hhold⟩:=R.tx1 t p hp
 obtain ⟨ht1,_,ht⟩:=R.wf.tle hp
 have hlen:=R.slen L.good
 have hroom:=R.wf.room hp
 have hpl:=R.wf.last t p hp
 refine (Yz6 L t ⟨by omega,by omega⟩ x hx (fun s'=>Ykj s s' t x∧Yao s' q) (fun W hW=>(Yyp hW L.good L.held (by omega) t ⟨by omega,ht⟩ x hx (by omega)).mono ?_)).mono ?_
 ·rintro e w' ⟨h1,s',h2,h3,h4⟩
  exact ⟨h1,s',⟨h2,h4⟩,h3⟩
 ·rintro e w' ⟨h1,s',⟨h2,hh⟩,hg⟩
  have hfacts:s'.cont=s.cont∧s'.kb=s.kb∧(s'.tx=fun u=>if u=t then none else s.tx u)∧s'.begun=s.begun∧s'.acts=s.acts∧s'.mo.M=s.mo.M.del (.int .i64 t)∧s'.ents=P.log ++ Yd6 true P t p []:=by
   rcases h2 with ⟨h0,rfl⟩ | ⟨h0,v',rfl⟩
   ·refine ⟨rfl,rfl,rfl,rfl,rfl,rfl,?_⟩
    rw [Yd6,if_pos rfl,if_pos (by omega),List.append_nil];exact R.nums.2.2
   ·refine ⟨rfl,rfl,?_,rfl,rfl,rfl,?_⟩
    ·funext u
     show (if u=t then none else (if u=t then some _ else s.tx u))=_;by_cases hu:u=t
     ·rw [if_pos hu,if_pos hu]
     ·rw [if_neg hu,if_neg hu,if_neg hu]
    ·rw [Yd6,if_pos rfl,if_neg (by omega),←R.nums.2.2,←hlast]
     show List.map (fun p=>p.1) (s.log ++ [_])=_;rw [List.map_append];rfl
  obtain ⟨f1,f2,f3,f4,f5,f7,f8⟩:=hfacts;exact ⟨h1,Ydp L hX hg hh (Yos L.cap f1 f3) f2 (Yor L.lies L.good R hp [] (fun h=>by cases h) f3 ⟨f4,f5⟩ f8 f7 (by unfold Ygd;rw [f1];exact R.buck) (fun _=>f1) (fun h=>by cases h))⟩
theorem Yot (h:Yd0 M) (key:ByteArray):Maps.has M (lit key)=(Yc4 M key).isSome∧∀ c,Yc4 M key=some c→Yat M key=c:=by
 refine ⟨?_,fun c hc=>by unfold Yat;rw [hc];rfl⟩;rcases h key with h1 | ⟨is,val,_,_,h1⟩
 ·rw [Maps.has_false_of_atKey h1]
  unfold Yc4;rw [h1];rfl
 ·rw [Maps.has_true_of_atKey h1]
  unfold Yc4;rw [h1];rfl
theorem Y2i (S:Yb6 w a false P X q) (t:Int) (p:TxP) (hp:P.tx t=some p):
 Calls prog 21 #[.pointer (some ⟨a,0,none⟩),.int .i64 t] w fun e w'=>e=.returned (.int .i64 0)∧∃ ks,Yoq p ks∧Ycv w w' a false (P.commit false t p ks) X q:=by
 obtain ⟨s,L,R,hX⟩:=S
 obtain ⟨x,hx,hlast,hhold⟩:=R.tx1 t p hp
 obtain ⟨ht1,_,ht⟩:=R.wf.tle hp
 have hlen:=R.slen L.good
 have hroom:=R.wf.room hp
 have hpl:=R.wf.last t p hp
 obtain ⟨⟨md,hmd⟩,b2,b3,b4⟩:=R.beside rfl
 have hti:Yax t:=⟨by omega,by omega⟩
 cases hmt:s.mt t with
 | none=>
  refine (Ysl L t hti x hx (fun s'=>Yfs s s' t s.cont 0 []∧(∃ md',Ya7 s' md')∧Yao s' q) (fun W hW=>(Y1b hW L.good L.held hmd t hti hmt).mono ?_)).mono ?_
  ·rintro e w' ⟨h1,s',md',h2,h3,h4,h5⟩
   exact ⟨h1,s',⟨h2,⟨md',h3⟩,h5⟩,h4⟩
  ·rintro e w' ⟨h1,s',⟨h2,h3,hh⟩,hg⟩
   have hno:∀ key,p.wrote key=none:=fun key=>by rw [←(b3 t p hp).1 key];simp [Sv.own,hmt]
   refine ⟨h1,[],⟨fun key=>by simp [hno],List.Pairwise.nil,Nat.zero_le _⟩,Ydp L hX hg hh (Yos L.cap h2.cont h2.tx) h2.nums.2.2.1 ?_⟩;refine Yor L.lies L.good R hp [] (fun _=>Nat.zero_le _) h2.tx ⟨h2.nums.2.1,h2.nums.1⟩ ?_ h2.nums.2.2.2.2.1 (by unfold Ygd;rw [h2.cont];exact R.buck) (fun h=>by cases h) (fun _=>⟨h3,h2.mt,fun key=>?_⟩)
   ·rw [h2.log,R.nums.2.2];rfl
   ·rw [h2.cont,b4,Ycc,hno];rfl
 | some m=>
  obtain ⟨hcok,hmn⟩:=hmd.cells t m hmt;have hmp:=(b3 t p hp).2 m hmt;have hown:∀ key,Yc4 m.M key=p.wrote key:=fun key=>by rw [←(b3 t p hp).1 key];simp [Sv.own,hmt]
  have hall:∀ k,Maps.has m.M (lit k)=true→Ybc x.H k=2:=fun k hk=>by
   rw [(Yot hcok k).1,hown] at hk;rw [hhold];unfold TxP.hold;rw [if_pos hk]
  have hcell:∀ key c,p.wrote key=some c→Yat m.M key=c:=fun key c hc=>(Yot hcok key).2 c (by rw [hown];exact hc)
  have hnr:∀ k,(Yat m.M k).1=false→(Yat m.M k).2.size=0:=fun k hk=>by
   cases hw:p.wrote k with
   | none=>
    have:Yat m.M k=(false,ByteArray.empty):=by unfold Yat;rw [hown,hw];rfl
    rw [this];rfl
   | some c=>
    rw [hcell k c hw] at hk ⊢;exact Yon (R.wf.nrm.2 t p k c hp hw) hk
  refine (Ysl L t hti x hx (fun s'=>∃ ks,Yfq m.M ks∧Yfs s s' t (Ydi s.cont m.M ks) (ks.length+1) (Ygf s m.M t x.last ks)∧(∃ md',Ya7 s' md')∧Yao s' q) (fun W hW=>(Y1e hW L.good L.held L.cap hmd t ⟨by omega,ht⟩ x hx (by omega) hmt hall (by omega) hnr).mono ?_)).mono ?_
  ·rintro e w' ⟨h1,ks,s',md',h0,h2,h3,h4,h5⟩
   exact ⟨h1,s',⟨ks,h0,h2,⟨md',h3⟩,h5⟩,h4⟩
  ·rintro e w' ⟨h1,s',⟨ks,h0,h2,h3,hh⟩,hg⟩
   obtain ⟨f1,f2,f3⟩:=Ys9 (c:=s.cont) m.M (fun n hn=>(L.good.rise n hn).1) ks;have hkm:∀ key,key∈ks↔(p.wrote key).isSome=true:=fun key=>by rw [h0.mem,(Yot hcok key).1,hown]
   have hkl:ks.length≤p.n:=by
    have hM:Yap w 9 m.b m.n m.M:=L.lies.comp (.madeOf t) m hmt;have:=World.ownsMap.size_le hM;rw [h0.len];omega
   refine ⟨h1,ks,⟨hkm,h0.rise,hkl⟩,Ydp L hX hg hh (Yl5 L.cap fun n k hn' hk=>?_) h2.nums.2.2.1 ?_⟩
   ·rcases hk with ⟨p',hp',rfl⟩ | ⟨h4,u,y,hy,h5⟩
    ·rw [h2.cont] at hp'
     rcases f2 n hn' p' hp' with h4 | ⟨h4,h5⟩
     ·exact .inl ⟨p',h4,rfl⟩
     ·exact .inr ⟨h5,t,x,hx,hall _ ((h0.mem _).1 h4)⟩
    ·rw [h2.tx] at hy
     by_cases hu:u=t
     ·simp only [hu,if_true] at hy;cases hy
     ·simp only [hu,if_false] at hy
      exact .inr ⟨h4,u,y,hy,h5⟩
   ·refine Yor L.lies L.good R hp ks (fun _=>hkl) h2.tx ⟨h2.nums.2.1,h2.nums.1⟩ ?_ h2.nums.2.2.2.2.1 (fun n hn' p' hp'=>?_) (fun h=>by cases h) (fun _=>⟨h3,h2.mt,fun key=>?_⟩)
    ·rw [h2.log,R.nums.2.2,Yd6,if_neg (by simp),Ygf]
     split
     ·rfl
     ·congr 1
      rw [hlast,hlen];congr 1;unfold Yft;apply List.ext_getElem?;intro j;rw [List.getElem?_mapIdx,List.getElem?_mapIdx]
      cases hj:ks[j]? with
      | none=>rfl
      | some key=>
       have hin:=(hkm key).1 (List.mem_of_getElem? hj);obtain ⟨c,hc⟩:=Option.isSome_iff_exists.1 hin;simp only [Option.map_some,Yd2,Yko,Ycc];rw [b4 key,hcell key c hc,hc,hlen];rfl
    ·rw [h2.cont] at hp'
     rcases f2 n hn' p' hp' with h4 | ⟨_,h4⟩
     ·exact R.buck n hn' p' h4
     ·exact h4
    ·rw [h2.cont]
     unfold Ycc
     cases hw:p.wrote key with
     | none=>
      have hni:key∉ks:=fun hk=>by
       have:=(hkm key).1 hk;rw [hw] at this
       cases this
      rw [(f3 key).2 hni,b4];rfl
     | some c=>
      have hin:key∈ks:=(hkm key).2 (by rw [hw];rfl);rw [(f3 key).1 hin,hcell key c hw];exact R.wf.nrm.2 t p key c hp hw
theorem Y2j (S:Yb6 w a k P X q) (t:Int) (p:TxP) (hp:P.tx t=some p):
 Calls prog 21 #[.pointer (some ⟨a,0,none⟩),.int .i64 t] w fun e w'=>e=.returned (.int .i64 0)∧∃ ks,(k=false→Yoq p ks)∧Ycv w w' a k (P.commit k t p ks) X q:=by
 cases k with
 | true=>
  refine (Y2h S t p hp).mono ?_;rintro e w' ⟨h1,h2⟩;exact ⟨h1,[],(fun h=>by cases h),h2⟩
 | false=>
  refine (Y2i S t p hp).mono ?_;rintro e w' ⟨h1,ks,h2,h3⟩;exact ⟨h1,ks,fun _=>h2,h3⟩
end Go.Proofs.YtihbngfbcnojcaaGreat
