import Derived.Test.YtihbngfbcnojcaaGreatActC10
set_option maxRecDepth 100000
set_option maxHeartbeats 8000000
namespace Go.Proofs.YtihbngfbcnojcaaGreat
open Go.RowKit Tryz
variable {k:ByteArray} {H M:DataW Value} {start t:Int} {ws:List (Nat×List Value)} {lg:List (Yac×Int)} {len m n q:Nat} {p:PgV} {a b c s s' s2:Sv} {x:TxE} {W w w' w1 w2:World} {A B ps:Yaf} {md:Ybh}
def Yfm (f:Nat→Option PgV):Nat:=
 (if (f 0).isNone then 1 else 0)+(if (f 1).isNone then 1 else 0)+(if (f 2).isNone then 1 else 0)+(if (f 3).isNone then 1 else 0)+(if (f 4).isNone then 1 else 0)+(if (f 5).isNone then 1 else 0)+(if (f 6).isNone then 1 else 0)+(if (f 7).isNone then 1 else 0)
theorem Yyb (f:Nat→Option PgV) (n:Nat) (hn:n<8) (p:PgV) (h:f n=none):Yfm (fun m=>if m=n then some p else f m)+1=Yfm f:=by
 have:n=0∨n=1∨n=2∨n=3∨n=4∨n=5∨n=6∨n=7:=by omega
 unfold Yfm;rcases this with rfl | rfl | rfl | rfl | rfl | rfl | rfl | rfl <;> simp [h] <;> omega
def Yeo (n:Nat):Lit:=.int .i64 (n:Int)
def Yf8 (D:Array Value) (ws:List (Nat×List Value)) (k:Nat) (a c:Int) (e:Yac):Prop:=
 Yay D ws (34+k)=Yam a c e.body∧0≤a∧a<4294967295∧0≤c∧c<4294967296∧e.Fits∧(e.oldIs=false→e.old.size=0)∧(e.newIs=false→e.new.size=0)
structure Yi6 (D:Array Value) (ws:List (Nat×List Value)) (start:Int) (ln:Nat) (lg:List (Yac×Int)):Prop where
 len:lg.length=ln
 at':∀ (i:Nat) (h:i<lg.length),Yf8 D ws i start lg[i].2 lg[i].1
 rest:∀ i,ln≤i→i<400→∃ a c e,Yf8 D ws i a c e∧a≠start
def Yfn (start:Int):Nat→List (Yac×Int)→List (Nat×List Value)
 | _,[]=>[]
 | b,e :: r=>(34+b,Yam start e.2 e.1.body) :: Yfn start (b+1) r
theorem Yrv (start:Int):∀ (l:List (Yac×Int)) (b:Nat) (e:Yac×Int),Yfn start b (l ++ [e])=Yfn start b l ++ [(34+(b+l.length),Yam start e.2 e.1.body)]
 | [],b,e=>by simp [Yfn]
 | d :: r,b,e=>by
  show _ :: Yfn start (b+1) (r ++ [e])=_ :: (Yfn start (b+1) r ++ _);rw [Yrv start r (b+1) e];simp only [List.length_cons];rw [show b+1+r.length=b+(r.length+1) by omega]
def Yeb (start count:Int) (c:Ybq):Prop:=c.a<start∨(c.a=start∧c.b≤count)
theorem Yeb.mono {count count':Int} {c:Ybq} (h:Yeb start count c) (hc:count≤count'):Yeb start count' c:=h.imp id fun h=>⟨h.1,by have:=h.2;omega⟩
structure Yyc (D:Array Value) (ws:List (Nat×List Value)) (start count:Int) (n:Nat) (cp:Ybq×Ybq) (pg:Option PgV) (chg:Bool) (cont:Yaf):Prop where
 on:Ykc D ws n cp.1 cp.2
 turn:∀ p,pg=some p→p.turn=(Ya3.of cp.1 cp.2 2).at'
 cont:chg=false→cont=(Ya3.of cp.1 cp.2 2).rec'
 have':chg=true→pg.isSome=true
 old:Yeb start count cp.1∧Yeb start count cp.2
theorem Yyd (hM:Maps.IsMap M) (n m:Nat) (d:DataW Value):Maps.has (M.put (Yeo n) d) (Yeo m)=if m=n then true else Maps.has M (Yeo m):=by
 by_cases h:m=n
 ·rw [if_pos h,h];exact Maps.has_put_same hM (by simp [WideAt.IsKeyLit,Yeo]) d
 ·rw [if_neg h];exact Maps.has_put_other (by simp [Yeo];omega) d
def Sv.chg (s:Sv) (n:Nat):Bool:=Maps.has s.mc.M (Yeo n)
structure Yar (s:Sv):Prop where
 dsz:s.D.size=27779
 dv:s.D[27776]? = some s.v
 fuse:s.D[27777]? = some (.int .i64 0)
 ok:Ydn s.ws
 wn:s.ws.length≤s.len+100
 ln:s.len≤391
 db:∀ i u,i<27776→s.D[i]? = some u→Ycm u
 wb:∀ p∈s.ws,∀ u∈p.2,Ycm u
 have':∀ n p,n<8→s.pgs n=some p→∀ zd,s.mp.M.atKey (Yeo n) zd=.held (.pointer (some ⟨p.g,0,none⟩))
 lack:∀ n,n<8→s.pgs n=none→∀ zd,s.mp.M.atKey (Yeo n) zd=zd
 room:s.mp.n+Yfm s.pgs≤8
 load:∀ n,n<8→Yyc s.D s.ws s.start s.count n (s.cp n) (s.pgs n) (s.chg n) (s.cont n)
 chk:∀ kl,Maps.has s.mc.M kl=true→∃ n,n<8∧kl=Yeo n
 logd:Yi6 s.D s.ws s.start s.len s.log
 wl:∃ m,m≤s.len∧s.ws=Yfn s.start m (s.log.drop m)
 rise:∀ n,n<8→Ybi (s.cont n)∧(s.cont n).length≤4∧∀ p∈s.cont n,p.1.size≤8∧p.2.size≤12
 st:0≤s.start∧s.start<4294967295
 ct:0≤s.count∧s.count≤100+s.len+1000*s.acts
 ac:s.acts≤120
 mon:s.mo.n≤s.acts
 mcn:s.mc.n≤s.len
 isOpen:∀ t x,s.tx t=some x→Yf7 s.mo.M t x.tb
 notOpen:∀ t,s.tx t=none→Yhf s.mo.M t
theorem Yb1 (s:Sv) {j:Nat} {u:Value} (hj:j<8) (h:(#[.pointer (some ⟨s.vb,0,none⟩),.int .i64 (s.len:Int),.pointer (some ⟨s.vb,0,none⟩),.map (some s.mp.b),.map (some s.mc.b),.map (some s.mo.b),.int .i64 (s.begun:Int),.int .i64 (s.acts:Int)]:Array Value)[j]? = some u):s.cells[j]? = some u:=by
 unfold Sv.cells;rw [Array.getElem?_append_left (by simpa using hj)];exact h
theorem Yan.frame (h:Yan w s) (hk:∀ tag k,s.blk tag=some k→w'.heap[k]? = w.heap[k]?) (hs:w.heap.size≤w'.heap.size):Yan w' s:=
 ⟨fun tag=>Ykg s tag (h.comp tag) (hk tag),h.apart,fun tag k hb=>by have:=h.lt tag k hb;omega⟩
theorem Yye {base:Nat} {v:Value} (h:w.ownsRow base 143 65 v ws.length (Ycs ws)):Yhe w v ws:=by
 rcases h.2 with ⟨h1,h2⟩ | ⟨g,cap,cur,h1,_,h3,_,_,_,h4⟩
 ·exact .inl ⟨h1,List.length_eq_zero_iff.1 h2⟩
 ·refine .inr ⟨g,cap,cur,h1,h3,fun j u hu=>?_⟩
  rw [←h4] at hu;rw [List.getElem?_take] at hu;split at hu
  ·simpa using hu
  ·cases hu
theorem Yan.disk (h:Yan w s) (g:Yar s):Yen w s.db s.D s.ws s.v:=
 ⟨h.comp .disk,g.dsz,g.dv,Yye (h.comp .uns),g.ok,by have:=g.wn;have:=g.ln;omega,g.db,g.wb⟩
def Ydb (s s':Sv) (n:Nat):Prop:=∀ tag k,s'.blk tag=some k→s.blk tag=some k∨n≤k
theorem Ydb.refl (s:Sv) (n:Nat):Ydb s s n:=fun _ _ h=>.inl h
theorem Ydb.trans (h:Ydb a b n) (k:Ydb b c m) (hm:n≤m):Ydb a c n:=fun tag q hq=>by
 rcases k tag q hq with h1 | h1
 ·exact h tag q h1
 ·exact .inr (by omega)
theorem Ydb.mono (h:Ydb a b n) (hm:m≤n):Ydb a b m:=fun tag q hq=>(h tag q hq).imp_right (fun h=>by omega)
structure Yab (w w':World) (s s':Sv):Prop where
 lies:Yan w' s'
 good:Yar s'
 grown:Ydb s s' w.heap.size
 off:∀ q,q<w.heap.size→(∀ tag,s.blk tag≠some q)→w'.heap[q]? = w.heap[q]?
 below:Below 0 w w'
theorem Yab.refl (h:Yan w s) (g:Yar s):Yab w w s s:=⟨h,g,Ydb.refl _ _,fun _ _ _=>rfl,Below.refl _ _⟩
theorem Yab.trans {s1:Sv} (h:Yab w w1 s s1) (k:Yab w1 w2 s1 s2):Yab w w2 s s2:=by
 have hz:=h.below.size;refine ⟨k.lies,k.good,h.grown.trans k.grown hz,fun q hq hn=>?_,h.below.trans k.below⟩;refine (k.off q (by omega) (fun tag ht=>?_)).trans (h.off q hq hn);rcases h.grown tag q ht with h1 | h1
 ·exact hn tag h1
 ·omega
theorem Yab.own (hl:Yan w s) (h:Yab W w' s s') {q:Nat} (hq:w.heap.size≤q) (hq':q<W.heap.size):w'.heap[q]? = W.heap[q]?∧∀ tag,s'.blk tag≠some q:=by
 refine ⟨h.off q hq' (fun tag ht=>by have:=hl.lt tag q ht;omega),fun tag ht=>?_⟩;rcases h.grown tag q ht with h1 | h1
 ·have:=hl.lt tag q h1;omega
 ·omega
theorem Yab.wrap (hl:Yan w s) (h0:Below w.heap.size w W) (h:Yab W w1 s s') (hk:∀ q,q<w1.heap.size→q<w.heap.size∨W.heap.size≤q→w2.heap[q]? = w1.heap[q]?) (hb:Below 0 w1 w2):Yab w w2 s s':=by
 have hz:=h0.size;refine ⟨h.lies.frame (fun tag k hk'=>?_) hb.size,h.good,h.grown.mono hz,fun q hq hn=>?_,(h0.mono (Nat.zero_le _)).trans (h.below.trans hb)⟩
 ·refine hk k (h.lies.lt tag k hk') ?_
  rcases h.grown tag k hk' with h1 | h1
  ·exact .inl (hl.lt tag k h1)
  ·exact .inr h1
 ·have:=h.below.size
  exact (hk q (by omega) (.inl hq)).trans ((h.off q (by omega) hn).trans (h0.block q hq))
def Yau (s s':Sv):Prop:=∃ P m,s' = { s with pgs:=P,mp:=m }∧m.b=s.mp.b
theorem Yrw (h:Yan w s) (g:Yar s) (n:Nat) (hn:n<8):
 Calls prog 111 #[.pointer (some ⟨s.kb,2,none⟩),.int .i64 (n:Int)] w fun e w'=>∃ s' p,e=.returned (.pointer (some ⟨p.g,0,none⟩))∧s'.pgs n=some p∧Yau s s'∧Yab w w' s s':=by
 have c2:w.cell? ⟨s.kb,2,none⟩=some (.pointer (some ⟨s.vb,0,none⟩)):=Yaa (h.comp .kind) (Yb1 s (by omega) rfl)
 have c3:w.cell? ⟨s.kb,2+1,none⟩=some (.map (some s.mp.b)):=Yaa (h.comp .kind) (Yb1 s (j:=3) (by omega) rfl)
 cases hp:s.pgs n with
 | some p=>
  refine (Yrh s.kb 2 s.mp.b s.mp.n n p.g s.mp.M w hn c3 (h.comp .mp) (g.have' n p hn hp _)).mono ?_;rintro e w' ⟨rfl,rfl⟩;exact ⟨s,p,rfl,hp,⟨s.pgs,s.mp,rfl,rfl⟩,Yab.refl h g⟩
 | none=>
  obtain ⟨hon,hturn,hct,hchg,hold⟩:=g.load n hn;have hch0:s.chg n=false:=by
   cases hc:s.chg n with
   | false=>rfl
   | true=>have:=hchg hc;rw [hp] at this;cases this
  replace hct:=hct hch0;obtain ⟨c0,hc0⟩:∃ c0,c0=(s.cp n).1:=⟨_,rfl⟩;obtain ⟨c1,hc1⟩:∃ c1,c1=(s.cp n).2:=⟨_,rfl⟩;rw [←hc0,←hc1] at hon hct;have hvc:w.cell? ⟨s.vb,0,none⟩=some (.pointer (some ⟨s.db,0,none⟩)):=Yaa (h.comp .vol) rfl;refine (Yx1 s.kb 2 s.vb s.db s.mp.b s.mp.n n s.D s.ws s.v c0 c1 s.mp.M w hn (by have:=g.room;omega) c2 c3 hvc (h.lt .kind _ rfl) (h.lt .vol _ rfl) (h.ne (a:=.kind) (b:=.mp) rfl rfl (by simp)) (h.disk g) hon (h.comp .mp) (g.lack n hn hp _)).mono ?_;rintro e w' ⟨q,rfl,x,hq1,hq2,hq3,hq4,hq5,hq6,hq7⟩;rw [←hct] at hq3;refine ⟨{ s with pgs:=fun m=>if m=n then some ⟨q,(Ya3.of c0 c1 2).at',x⟩ else s.pgs m,mp:=⟨s.mp.b,s.mp.n+1,s.mp.M.put (.int .i64 (n:Int)) (.held (.pointer (some ⟨q,0,none⟩)))⟩ },⟨q,(Ya3.of c0 c1 2).at',x⟩,rfl,by simp,⟨_,_,rfl,rfl⟩,?_,?_,?_,fun k hk hn'=>hq6 k hk (fun e=>hn' .mp (by rw [e];rfl)),hq7⟩
  ·have hqw:q<w'.heap.size:=Yaj hq2
   have hxo:=World.ownsRow.lt hq3;refine h.step (fun tag=>tag=.mp∨tag=.page n∨tag=.row n) ?_ ?_ ?_ ?_ ?_ hq7.size
   ·intro tag ht
    simp only [not_or] at ht;obtain ⟨t1,t2,t3⟩:=ht
    cases tag using Tag.elim with
    | page m=>have hm:m≠n:=fun e=>t2 (by rw [e]);exact ⟨by simp [hm],fun W hW p hp'=>by simp [hm] at hp';exact hW p hp'⟩
    | row m=>have hm:m≠n:=fun e=>t3 (by rw [e]);exact ⟨by simp [hm],fun W hW p hp'=>by simp [hm] at hp';exact hW p hp'⟩
    | mp=>exact absurd rfl t1
    | _=>exact ⟨rfl,fun W hW=>hW⟩
   ·intro tag k ht hk
    exact hq6 k (h.lt tag k hk) (fun e=>ht (.inl (h.apart tag .mp k hk (by rw [e];rfl))))
   ·rintro tag (rfl | rfl | rfl)
    ·exact hq5
    ·intro p hp'
     simp at hp';subst hp';exact hq2
    ·intro p hp'
     simp at hp';subst hp';exact Yeu hq3 (Nat.zero_le _)
   ·rintro tag k (rfl | rfl | rfl) hk
    ·exact .inl hk
    ·simp at hk
     exact .inr (by omega)
    ·simp at hk
     exact .inr (hxo k hk)
   ·rintro a b k (rfl | rfl | rfl) (rfl | rfl | rfl) h1 h2 <;> simp at h1 h2 ⊢
    ·have:=h.lt .mp _ rfl;omega
    ·have:=(hxo k h2).1;have:=h.lt .mp _ rfl;omega
    ·have:=h.lt .mp _ rfl;omega
    ·exact hq4 (by rw [h1];exact h2)
    ·have:=(hxo k h1).1;have:=h.lt .mp _ rfl;omega
    ·exact hq4 (by rw [h2];exact h1)
  ·have hM:=World.ownsMap.isMap (h.comp .mp)
   refine { dsz:=g.dsz,dv:=g.dv,fuse:=g.fuse,ok:=g.ok,wn:=g.wn,ln:=g.ln,db:=g.db,wb:=g.wb,have':=fun m p hm hp' zd=>?_,lack:=fun m hm hp' zd=>?_,room:=?_,load:=fun m hm=>?_,chk:=g.chk,logd:=g.logd,wl:=g.wl,rise:=g.rise,st:=g.st,ct:=g.ct,ac:=g.ac,mon:=g.mon,mcn:=g.mcn,isOpen:=g.isOpen,notOpen:=g.notOpen }
   ·by_cases hmn:m=n
    ·subst hmn
     simp at hp';subst hp';exact Maps.atKey_put_same hM (by simp [WideAt.IsKeyLit]) _ _
    ·simp [hmn] at hp'
     rw [←g.have' m p hm hp' zd];exact Maps.atKey_put_other (by simp [Yeo];omega) _ _
   ·by_cases hmn:m=n
    ·subst hmn;simp at hp'
    ·simp [hmn] at hp'
     refine Eq.trans ?_ (g.lack m hm hp' zd);exact Maps.atKey_put_other (by simp [Yeo];omega) _ _
   ·have:=Yyb s.pgs n hn ⟨q,(Ya3.of c0 c1 2).at',x⟩ hp
    have:=g.room;show s.mp.n+1+Yfm (fun m=>if m=n then some ⟨q,(Ya3.of c0 c1 2).at',x⟩ else s.pgs m)≤8;omega
   ·obtain ⟨a1,a2,a3,a4,a5⟩:=g.load m hm
    refine ⟨a1,fun p hp'=>?_,a3,fun hc=>?_,a5⟩
    ·by_cases hmn:m=n
     ·subst hmn
      simp at hp';subst hp';rw [hc0,hc1]
     ·simp only [hmn,if_false] at hp'
      exact a2 p hp'
    ·by_cases hmn:m=n
     ·simp [hmn]
     ·simp only [hmn,if_false]
      exact a4 hc
  ·intro tag k hk
   cases tag using Tag.elim with
   | page m=>
    by_cases hm:m=n
    ·simp [hm] at hk;exact .inr (by omega)
    ·simp [hm] at hk;exact .inl (by simp;exact hk)
   | row m=>
    by_cases hm:m=n
    ·simp [hm] at hk;exact .inr (World.ownsRow.lt hq3 k hk).1
    ·simp [hm] at hk;exact .inl (by simp;exact hk)
   | _=>exact .inl hk
def Yhi (H:DataW Value):Prop:=∀ key:ByteArray,(∀ zd,H.atKey (lit key) zd=zd)∨∃ h:Int,1≤h∧h≤2∧key.size≤8∧∀ zd,H.atKey (lit key) zd=.held (.int .i64 h)
def Yi7:DataW Value→Int
 | .held (.int _ h)=>h
 | _=>0
def Ybc (H:DataW Value) (key:ByteArray):Int:=Yi7 (H.atKey (lit key) (.held (.int .i64 0)))
theorem Ylq (h:Yhi H) (key:ByteArray):H.atKey (lit key) (.held (.int .i64 0))=.held (.int .i64 (Ybc H key))∧0≤Ybc H key∧Ybc H key≤2:=by
 unfold Ybc;rcases h key with h1 | ⟨x,h1,h2,_,h3⟩
 ·rw [h1];exact ⟨rfl,by simp [Yi7],by simp [Yi7]⟩
 ·rw [h3];simp only [Yi7];exact ⟨trivial,by omega,h2⟩
theorem Yhi.put (h:Yhi H) (hm:Maps.IsMap H) (key:ByteArray) (hk:key.size≤8) (x:Int) (h1:1≤x) (h2:x≤2):Yhi (H.put (lit key) (.held (.int .i64 x))):=fun s=>by
 by_cases hs:s=key
 ·subst hs
  exact .inr ⟨x,h1,h2,hk,fun zd=>Maps.atKey_put_same hm (by simp [WideAt.IsKeyLit]) _ _⟩
 ·have hne:lit s≠lit key:=fun e=>hs (Yhg e)
  rcases h s with h3 | ⟨y,h3,h4,h5,h6⟩
  ·exact .inl fun zd=>(Maps.atKey_put_other hne _ _).trans (h3 zd)
  ·exact .inr ⟨y,h3,h4,h5,fun zd=>(Maps.atKey_put_other hne _ _).trans (h6 zd)⟩
theorem Ykh (hm:Maps.IsMap H) (key s:ByteArray) (x:Int):Ybc (H.put (lit key) (.held (.int .i64 x))) s=if s=key then x else Ybc H s:=by
 by_cases hs:s=key
 ·subst hs
  rw [if_pos rfl];unfold Ybc;rw [Maps.atKey_put_same hm (by simp [WideAt.IsKeyLit])];rfl
 ·rw [if_neg hs]
  unfold Ybc;rw [Maps.atKey_put_other (fun e=>hs (Yhg e))]
def Yao (s:Sv) (q:Nat):Prop:=∀ t x,s.tx t=some x→x.nH≤q∧Yhi x.H∧Maps.IsMap x.H
def Sv.holds (s:Sv) (key:ByteArray) (t:Int):Int:=match s.tx t with | some x=>Ybc x.H key | none=>0
def Sv.tabs (s:Sv) (t:Int):DataW Value:=match s.tx t with | some x=>x.H | none=>.map []
theorem Yns (g:Yar s) {t:Int} {v:Value} (hv:∀ zd,s.mo.M.atKey (.int .i64 t) zd=.held v):∃ x,s.tx t=some x∧v=.pointer (some ⟨x.tb,0,none⟩):=by
 cases hx:s.tx t with
 | some x=>
  refine ⟨x,rfl,?_⟩;have h1:=hv (.held (.pointer none));rw [g.isOpen t x hx] at h1;simp only [DataW.held.injEq] at h1;exact h1.symm
 | none=>
  have h1:=hv (.map []);rw [g.notOpen t hx] at h1
  cases h1
theorem Yrx (h:Yan w s) (g:Yar s) (hh:Yao s q) (key:ByteArray):Yh9 w s.mo.M key (s.holds key):=fun t v hv=>by
 obtain ⟨x,hx,rfl⟩:=Yns g hv;obtain ⟨_,h2,h3⟩:=hh t x hx;obtain ⟨a1,a2,a3⟩:=Ylq h2 key;refine ⟨x.tb,(x.last:Int),x.hb,x.nH,x.H,rfl,h.comp (.tx t) x hx,h.comp (.held t) x hx,?_,?_,?_⟩ <;> simp only [Sv.holds,hx]
 ·exact a1
 ·exact a2
 ·exact a3
theorem Yyf (h:Yan w s) (g:Yar s) (hh:Yao s q) (hq:q≤2000000000000):Yia w s.mo.M s.tabs:=fun t v hv=>by
 obtain ⟨x,hx,rfl⟩:=Yns g hv;obtain ⟨h1,h2,h3⟩:=hh t x hx;refine ⟨x.tb,(x.last:Int),x.hb,x.nH,rfl,h.comp (.tx t) x hx,?_,by omega,fun key y hy=>?_⟩
 ·simp only [Sv.tabs,hx];exact h.comp (.held t) x hx
 ·simp only [Sv.tabs,hx] at hy
  rcases h2 key with h4 | ⟨z,h4,h5,h6,h7⟩
  ·have:=hy (.map []);rw [h4] at this;cases this
  ·have:=hy (.map []);rw [h7] at this
   simp only [DataW.held.injEq] at this;exact ⟨z,this.symm,by omega⟩
def granted (s:Sv) (t:Int) (x:TxE) (key:ByteArray) (lv:Int):Sv:=
 { s with tx:=fun u=>if u=t then some { x with nH:=x.nH+1,H:=x.H.put (lit key) (.held (.int .i64 (max (Ybc x.H key) lv))) } else s.tx u }
theorem Yyg (s:Sv) (t:Int) (x:TxE) (hx:s.tx t=some x) (key:ByteArray) (lv:Int) (tag:Tag):(granted s t x key lv).blk tag=s.blk tag:=by
 cases tag using Tag.elim with
 | tx u=>
  by_cases hu:u=t
  ·subst hu;simp [granted,hx]
  ·simp [granted,hu]
 | held u=>
  by_cases hu:u=t
  ·subst hu;simp [granted,hx]
  ·simp [granted,hu]
 | _=>rfl
theorem Ylr (h:Yan w s) (g:Yar s) (hh:Yao s q) (hq:q≤2000000000000) (t:Int) (ht:Yax t) (x:TxE) (hx:s.tx t=some x) (key:ByteArray) (hks:key.size≤8) (lv:Int) (hlv:1≤lv∧lv≤2):
 Calls prog 294 #[.pointer (some ⟨s.kb,0,none⟩),.int .i64 t,.string key,.int .i64 lv] w fun e w'=>e=.returned (.tuple #[])∧Yab w w' s (granted s t x key lv)∧Yao (granted s t x key lv) (q+1):=by
 obtain ⟨h1,h2,h3⟩:=hh t x hx
 obtain ⟨a1,a2,a3⟩:=Ylq h2 key
 have c5:w.cell? ⟨s.kb,5,none⟩=some (.map (some s.mo.b)):=Yaa (h.comp .kind) (Yb1 s (by omega) rfl)
 refine (Yx3 s.kb s.mo.b s.mo.n x.tb x.hb x.nH s.mo.M x.H t key (x.last:Int) lv (Ybc x.H key) w ht (by omega) (by omega) c5 (h.comp .mo) (g.isOpen t x hx) (h.comp (.tx t) x hx) ⟨h.comp (.held t) x hx,a1,a2,a3⟩).mono ?_
 rintro e w' ⟨rfl,k1,k2,k3,k4⟩
 have hB:=Yyg s t x hx key lv
 have hmx:Maps.IsMap (x.H.put (lit key) (.held (.int .i64 (max (Ybc x.H key) lv)))):=World.ownsMap.isMap k1
 refine ⟨rfl,⟨?_,?_,fun tag k hk=>.inl (by rw [←hB];exact hk),fun k _ hn=>k2 k (fun e=>hn (.held t) (by simp [hx,e])),k4⟩,?_⟩
 ·refine h.step (fun tag=>tag=.held t) (fun tag ht'=>⟨hB tag,fun W hW=>?_⟩) (fun tag k ht' hk=>k2 k (fun e=>ht' (h.apart tag (.held t) k hk (by simp [hx,e])))) ?_ (fun tag k _ hk=>.inl (by rw [←hB];exact hk)) (fun a b k ha hb _ _=>by rw [ha,hb]) (by omega)
  ·cases tag using Tag.elim with
   | tx u=>
    by_cases hu:u=t
    ·subst hu
     intro y hy;simp [granted] at hy;subst hy;exact hW x hx
    ·intro y hy
     simp [granted,hu] at hy;exact hW y hy
   | held u=>
    have hu:u≠t:=fun e=>ht' (by rw [e])
    intro y hy;simp [granted,hu] at hy;exact hW y hy
   | _=>exact hW
  ·rintro tag rfl y hy
   simp [granted] at hy;subst hy;exact k1
 ·exact {
   dsz:=g.dsz,dv:=g.dv,fuse:=g.fuse,ok:=g.ok,wn:=g.wn,ln:=g.ln,db:=g.db,wb:=g.wb,have':=g.have',lack:=g.lack,room:=g.room,load:=g.load,chk:=g.chk,logd:=g.logd,wl:=g.wl,rise:=g.rise,st:=g.st,ct:=g.ct,ac:=g.ac,mon:=g.mon,mcn:=g.mcn,isOpen:=fun u y hy=>by
    by_cases hu:u=t
    ·subst hu
     simp [granted] at hy;subst hy;exact g.isOpen u x hx
    ·simp [granted,hu] at hy
     exact g.isOpen u y hy
   notOpen:=fun u hy=>by
    by_cases hu:u=t
    ·subst hu;simp [granted] at hy
    ·simp [granted,hu] at hy
     exact g.notOpen u hy }
 ·intro u y hy
  by_cases hu:u=t
  ·subst hu
   simp [granted] at hy;subst hy;exact ⟨by show x.nH+1≤q+1;omega,h2.put h3 key hks _ (by omega) (by omega),hmx⟩
  ·simp [granted,hu] at hy
   obtain ⟨b1,b2,b3⟩:=hh u y hy;exact ⟨by omega,b2,b3⟩
theorem Ycy (key:ByteArray):Yae key<8:=Nat.mod_lt _ (by omega)
theorem Yau.refl (s:Sv):Yau s s:=⟨s.pgs,s.mp,rfl,rfl⟩
theorem Yau.trans (h:Yau a b) (k:Yau b c):Yau a c:=by
 obtain ⟨P,m,rfl,h1⟩:=h;obtain ⟨P',m',rfl,h2⟩:=k;exact ⟨P',m',rfl,h2.trans h1⟩
theorem Yau.held (h:Yau s s') {q:Nat} (hh:Yao s q):Yao s' q:=by
 obtain ⟨P,m,rfl,h1⟩:=h;exact hh
theorem Yau.same (h:Yau s s'):s'.kb=s.kb∧s'.mo=s.mo∧s'.cont=s.cont∧s'.tx=s.tx∧s'.tabs=s.tabs:=by
 obtain ⟨P,m,rfl,h1⟩:=h;exact ⟨rfl,rfl,rfl,rfl,rfl⟩
theorem Yf9 (h:s.pgs n=some p):s.blk (.page n)=some p.g:=by simp [h]
theorem Yhj (h:s.pgs n=some p):s.blk (.row n)=p.v.ownBlock:=by simp [h]
theorem Yib (h:s.tx t=some x):s.blk (.tx t)=some x.tb:=by simp [h]
theorem Yyh (h:s.tx t=some x):s.blk (.held t)=some x.hb:=by simp [h]
theorem Ynt (h:Yan w s) (g:Yar s) (n:Nat) (hn:n<8) (ob:Obj) (W:World) (hW:Below w.heap.size w W) (hob:W.heap[w.heap.size]? = some ob):
 Calls prog 111 #[.pointer (some ⟨s.kb,2,none⟩),.int .i64 (n:Int)] W fun e w'=>∃ gb,e=.returned (.pointer (some ⟨gb,0,none⟩))∧w'.heap[w.heap.size]? = some ob∧w.heap.size<w'.heap.size ∧
  ∃ s' p,p.g=gb∧s'.pgs n=some p∧Yau s s'∧Yab W w' s s'∧Below w.heap.size w W∧w.heap.size<W.heap.size:=by
 have hlt:w.heap.size<W.heap.size:=Yaj hob
 refine (Yrw (h.below hW) g n hn).mono ?_
 rintro e w' ⟨s',p,rfl,h1,h2,h3⟩
 exact ⟨p.g,rfl,((h3.own h (Nat.le_refl _) hlt).1).trans hob,by have:=h3.below.size;omega,s',p,rfl,h1,h2,h3,hW,hlt⟩
theorem Yls (h:Yan w s) (g:Yar s) (key:ByteArray) (hks:key.size≤8):
 Calls prog 289 #[.pointer (some ⟨s.kb,2,none⟩),.string key] w fun e w'=>e=.returned (.agg #[.bool (Yag (s.cont (Yae key)) key).1,.string (Yag (s.cont (Yae key)) key).2])∧∃ s',Yau s s'∧Yab w w' s s':=by
 obtain ⟨r1,r2,r3⟩:=g.rise _ (Ycy key)
 refine (Yx5 s.kb 2 key w (by omega) (fun gb w'=>∃ W s' p,p.g=gb∧s'.pgs (Yae key)=some p∧Yau s s'∧Yab W w' s s'∧Below w.heap.size w W∧w.heap.size<W.heap.size) (s.cont (Yae key)) (by omega) r1 ?_ ?_).mono ?_
 ·intro ob W hW hob
  refine (Ynt h g _ (Ycy key) ob W hW hob).mono ?_;rintro e w' ⟨gb,rfl,k1,k2,k3⟩;exact ⟨gb,rfl,k1,W,k3⟩
 ·rintro gb w1 ⟨W,s',p,rfl,k1,k2,k3,_⟩
  have hrow:=k3.lies.comp (.row _) p k1;rw [k2.same.2.2.1] at hrow;exact ⟨_,_,k3.lies.comp (.page _) p k1,hrow⟩
 ·rintro e w' ⟨rfl,gb,w1,⟨W,s',p,rfl,k1,k2,k3,k4,k5⟩,k7,k8,k9⟩
  exact ⟨rfl,s',k2,k3.wrap h k4 (fun q hq ho=>k8 q hq (by omega)) k9⟩
theorem Yyi (h:Yan w s) (g:Yar s) (hh:Yao s q) (hq:q≤2000000000000) (key:ByteArray) (hks:key.size≤8):
 Calls prog 293 #[.pointer (some ⟨s.kb,0,none⟩),.string key] w fun e w'=>∃ Kd,e=.returned (.bool (Maps.has Kd (lit key) || decide (Maps.size Kd<4)))∧Yhh (s.cont (Yae key)) s.mo.M s.tabs (Yae key) Kd∧∃ s',Yau s s'∧Yab w w' s s':=by
 obtain ⟨r1,r2,r3⟩:=g.rise _ (Ycy key)
 have hkb:=h.lt .kind _ rfl
 have hmb:=h.lt .mo _ rfl
 refine (Yx8 s.kb s.mo.b s.mo.n s.mo.M s.tabs key w (by omega) (by have:=g.mon;have:=g.ac;omega) (fun gb w'=>∃ W s' p,p.g=gb∧s'.pgs (Yae key)=some p∧Yau s s'∧Yab W w' s s'∧Below w.heap.size w W∧w.heap.size<W.heap.size) (s.cont (Yae key)) (by omega) (fun p hp=>by have:=(r3 p hp).1;omega) ?_ ?_).mono ?_
 ·intro W hW hob
  refine (Ynt h g _ (Ycy key) _ W hW hob).mono ?_;rintro e w' ⟨gb,rfl,k1,k2,k3⟩;exact ⟨gb,rfl,k1,k2,W,k3⟩
 ·rintro gb w1 ⟨W,s',p,rfl,k1,k2,k3,k4,k5⟩
  have hoff:=(k3.own h (Nat.le_refl _) k5).2;have hh':=k2.held hh;obtain ⟨q1,q2,q3,q4,q5⟩:=k2.same;have c5:w1.cell? ⟨s.kb,5,none⟩=some (.map (some s.mo.b)):=by rw [←q1,←q2];exact Yaa (k3.lies.comp .kind) (Yb1 _ (j:=5) (by omega) rfl)
  have hmo':Yap w1 3 s.mo.b s.mo.n s.mo.M:=by rw [←q2];exact k3.lies.comp .mo
  have htb:Yia w1 s.mo.M s.tabs:=by rw [←q2,←q5];exact Yyf k3.lies k3.good hh' hq
  have hrow:=k3.lies.comp (.row _) p k1;rw [q3] at hrow;refine ⟨_,_,⟨k3.lies.comp (.page _) p k1,hrow⟩,fun e=>hoff (.page (Yae key)) (by rw [Yf9 k1,e]),fun e=>hoff (.row (Yae key)) (by rw [Yhj k1];exact e),c5,hkb,hmb,hmo',htb,?_⟩;rw [←q2];intro t u hu tb last hb nH e1 e2 e3;obtain ⟨x,hx,hux⟩:=Yns k3.good hu;rw [hux] at e1;simp only [Value.pointer.injEq,Option.some.injEq,Addr.mk.injEq,and_true] at e1;subst e1;refine ⟨fun e=>hoff (.tx t) (by rw [Yib hx,e]),?_⟩;have e4:=k3.lies.comp (.tx t) x hx;have:hb=x.hb:=by
   have e5:=e2.symm.trans e4;simp at e5;exact e5.2
  rw [this];exact fun e=>hoff (.held t) (by rw [Yyh hx,e])
 ·rintro e w' ⟨Kd,gb,w1,rfl,k0,⟨W,s',p,rfl,k1,k2,k3,k4,k5⟩,k8,k9⟩
  exact ⟨Kd,rfl,k0,s',k2,k3.wrap h k4 (fun q hq ho=>k8 q hq (by omega)) k9⟩
theorem Ygr:Ybi ps↔ps.Pairwise (fun a b=>blt a.1 b.1):=by
 rw [List.pairwise_iff_getElem];exact Iff.rfl
theorem Ynu (hr:Ybi ps) (key:ByteArray) (is:Bool) (val:ByteArray):∃ A B,(∀ p∈A,blt p.1 key)∧(∀ p∈B,blt key p.1)∧(ps=A ++ B∨∃ v0,ps=A ++ (key,v0) :: B)∧Yaw ps key is val=if is then A ++ (key,val) :: B else A ++ B:=by
 obtain ⟨i,hpos⟩:=Yk7 ps key hr;obtain ⟨A,B,hAl,hA,hB,hcase⟩:=Yqr hpos hr;rcases hcase with ⟨v0,hps,_⟩ | ⟨hps,_⟩
 ·exact ⟨A,B,hA,hB,.inr ⟨v0,hps⟩,by rw [hps];exact Ynh A B key v0 is val hA hB⟩
 ·exact ⟨A,B,hA,hB,.inl hps,by rw [hps];exact Yni A B key is val hA hB⟩
theorem Yfo (hr:Ybi ps) (key:ByteArray) (is:Bool) (val:ByteArray):Ybi (Yaw ps key is val):=by
 obtain ⟨A,B,hA,hB,hps,hw⟩:=Ynu hr key is val;have hAB:(A ++ B).Pairwise (fun a b=>blt a.1 b.1):=by
  rcases hps with h | ⟨v0,h⟩
  ·rw [←h];exact Ygr.1 hr
  ·exact (Ygr.1 hr).sublist (by rw [h];exact (List.Sublist.refl A).append (List.sublist_cons_self _ B))
 rw [hw,Ygr]
 cases is with
 | false=>exact hAB
 | true=>
  obtain ⟨h1,h2,h3⟩:=List.pairwise_append.1 hAB;refine List.pairwise_append.2 ⟨h1,List.pairwise_cons.2 ⟨hB,h2⟩,fun a ha b hb=>?_⟩;rcases List.mem_cons.1 hb with rfl | hb
  ·exact hA a ha
  ·exact h3 a ha b hb
theorem Yhk (hr:Ybi ps) (key:ByteArray) (is:Bool) (val:ByteArray) {p:ByteArray×ByteArray} (hp:p∈Yaw ps key is val):p∈ps∨(is=true∧p=(key,val)):=by
 obtain ⟨A,B,hA,hB,hps,hw⟩:=Ynu hr key is val;rw [hw] at hp;have hAB:∀ q∈A ++ B,q∈ps:=fun q hq=>by
  rcases hps with h | ⟨v0,h⟩
  ·rw [h];exact hq
  ·rw [h]
   rcases List.mem_append.1 hq with h1 | h1
   ·exact List.mem_append_left _ h1
   ·exact List.mem_append_right _ (List.mem_cons_of_mem _ h1)
 cases is with
 | false=>exact .inl (hAB p hp)
 | true=>
  rcases List.mem_append.1 hp with h1 | h1
  ·exact .inl (hAB p (List.mem_append_left _ h1))
  ·rcases List.mem_cons.1 h1 with h2 | h2
   ·exact .inr ⟨rfl,h2⟩
   ·exact .inl (hAB p (List.mem_append_right _ h2))
theorem Ynv (h:∀ p∈A,p.1≠k):Yag (A ++ B) k=Yag B k:=by
 induction A with
 | nil=>rfl
 | cons p r ih=>
  rw [List.cons_append,Yag,if_neg (h p (by simp))];exact ih (fun q hq=>h q (by simp [hq]))
theorem Ynw (h:∀ p∈A,p.1≠k):Yag A k=(false,ByteArray.empty):=Yk6 A k (fun _ _=>h _ (List.getElem_mem _))
theorem Yry {p:ByteArray×ByteArray} (h:p.1≠k):Yag (A ++ p :: B) k=Yag (A ++ B) k:=by
 induction A with
 | nil=>rw [List.nil_append,Yag,if_neg h];rfl
 | cons q r ih=>
  rw [List.cons_append,List.cons_append,Yag,Yag];split
  ·rfl
  ·exact ih
theorem Yic (hr:Ybi ps) (key:ByteArray) (is:Bool) (val k:ByteArray):Yag (Yaw ps key is val) k=if k=key then (if is then (true,val) else (false,ByteArray.empty)) else Yag ps k:=by
 obtain ⟨A,B,hA,hB,hps,hw⟩:=Ynu hr key is val;rw [hw];by_cases hk:k=key
 ·subst hk
  rw [if_pos rfl];have hA':∀ p∈A,p.1≠k:=fun p hp=>Yej (hA p hp)
  have hB':∀ p∈B,p.1≠k:=fun p hp e=>Yej (hB p hp) e.symm
  cases is with
  | true=>simp only [if_true];rw [Ynv hA',Yag,if_pos rfl]
  | false=>simp only [Bool.false_eq_true,if_false];rw [Ynv hA',Ynw hB']
 ·rw [if_neg hk]
  have h1:Yag ps k=Yag (A ++ B) k:=by
   rcases hps with h | ⟨v0,h⟩
   ·rw [h]
   ·rw [h];exact Yry (fun e=>hk e.symm)
  rw [h1]
  cases is with
  | true=>simp only [if_true];exact Yry (fun e=>hk e.symm)
  | false=>simp only [Bool.false_eq_true,if_false]
def Sv.put (s:Sv) (n:Nat) (p:PgV) (ps:Yaf):Sv:=
 { s with pgs:=fun m=>if m=n then some p else s.pgs m,cont:=fun m=>if m=n then ps else s.cont m,mc:=⟨s.mc.b,s.mc.n+1,s.mc.M.put (.int .i64 (n:Int)) (.held (.agg #[]))⟩ }
theorem Yyj (f:Nat→Option PgV) (n:Nat) (p p':PgV) (h:f n=some p):Yfm (fun m=>if m=n then some p' else f m)=Yfm f:=by
 have:∀ m,(if m=n then some p' else f m).isNone=(f m).isNone:=fun m=>by
  split
  ·rename_i e;rw [e,h];rfl
  ·rfl
 simp only [Yfm,this]
theorem Ynx (h:Yan w s) (g:Yar s) (key:ByteArray) (hks:key.size≤8) (is:Bool) (val:ByteArray) (hvs:val.size≤12) (hmc:s.mc.n<s.len) (hfit:(Yaw (s.cont (Yae key)) key is val).length≤4):
 Calls prog 80 #[.pointer (some ⟨s.kb,2,none⟩),.string key,.agg #[.bool is,.string val]] w fun e w'=>e=.returned (.tuple #[])∧∃ s1 p',Yau s s1∧Yab w w' s (s1.put (Yae key) p' (Yaw (s.cont (Yae key)) key is val)):=by
 obtain ⟨r1,r2,r3⟩:=g.rise _ (Ycy key)
 have hbl:=Ycy key
 have hln:=g.ln
 have hkb:=h.lt .kind _ rfl
 refine (Yx6 s.kb 2 s.mc.b s.mc.n s.mc.M key is val w (by omega) (by omega) ⟨by omega,by omega⟩ (fun gb w'=>∃ W s' p,p.g=gb∧s'.pgs (Yae key)=some p∧Yau s s'∧Yab W w' s s'∧Below w.heap.size w W∧w.heap.size<W.heap.size) (s.cont (Yae key)) (by omega) r1 ?_ ?_).mono ?_
 ·intro ob W hW hob
  refine (Ynt h g _ (Ycy key) ob W hW hob).mono ?_;rintro e w' ⟨gb,rfl,k1,k2,k3⟩;exact ⟨gb,rfl,k1,W,k3⟩
 ·rintro gb w1 ⟨W,s',p,rfl,k1,k2,k3,k4,k5⟩
  have hoff:=(k3.own h (Nat.le_refl _) k5).2;have hrow:=k3.lies.comp (.row _) p k1;rw [k2.same.2.2.1] at hrow;have hL:=k3.lies;have hmcs:s'.mc=s.mc:=by obtain ⟨P,m,rfl,_⟩:=k2;rfl
  have hkbs:s'.kb=s.kb:=k2.same.1;have e1:∀ b,p.v.ownBlock=some b→∀ tag,s'.blk tag=some b→tag=.row (Yae key):=fun b hb tag ht=>hL.apart tag (.row (Yae key)) b ht (by rw [Yhj k1];exact hb)
  refine ⟨_,_,⟨hL.comp (.page _) p k1,hrow⟩,fun e=>?_,?_,?_,fun e=>hoff (.page (Yae key)) (by rw [Yf9 k1,e]),fun e=>?_,fun e=>?_,fun e=>hoff (.row (Yae key)) (by rw [Yhj k1];exact e),?_,?_,?_⟩
  ·have:=e1 _ e _ (Yf9 k1);simp at this
  ·exact hL.ne (a:=.page (Yae key)) (b:=.kind) (Yf9 k1) (by rw [←hkbs];rfl) (by simp)
  ·exact hL.ne (a:=.page (Yae key)) (b:=.mc) (Yf9 k1) (by rw [←hmcs];rfl) (by simp)
  ·have:=e1 _ e .kind (by rw [←hkbs];rfl);simp at this
  ·have:=e1 _ e .mc (by rw [←hmcs];rfl);simp at this
  ·have:=k3.below.size;omega
  ·rw [←hkbs,←hmcs];exact Yaa (hL.comp .kind) (Yb1 _ (j:=4) (by omega) rfl)
  ·rw [←hmcs];exact hL.comp .mc
 ·rintro e w' ⟨rfl,gb,w1,w2,turn,v,⟨W,s',p,rfl,k1,k2,k3,k4,k5⟩,hpa,hz1,⟨v',hp',hne',hfr,hvb,hb2⟩,hm3,hfr3,hz3,hb3⟩
  have hL:=k3.lies;have hG:=k3.good;have hpg:=hL.comp (.page _) p k1;have hpv:v=p.v:=by
   have e5:=hpa.1.symm.trans hpg;simp at e5;exact e5.2
  subst hpv;have hmcs:s'.mc=s.mc:=by obtain ⟨P,m,rfl,_⟩:=k2;rfl
  have hlens:s'.len=s.len:=by obtain ⟨P,m,rfl,_⟩:=k2;rfl
  have hcont:s'.cont=s.cont:=k2.same.2.2.1;have hturn:turn=(p.turn:Int):=by
   have e5:=hpa.1.symm.trans hpg;simp at e5;exact e5
  subst hturn;have hlt2:=hb2.size;have hlt3:=hb3.size;have hmcb:s'.blk .mc=some s.mc.b:=by rw [←hmcs];rfl
  have hnv:v'.ownBlock≠some s.mc.b:=fun e=>by
   rcases hvb with h1 | ⟨k,h1,h2⟩
   ·have:=hL.apart .mc (.row (Yae key)) s.mc.b hmcb (by rw [Yhj k1,←h1];exact e);simp at this
   ·rw [h2] at e;simp at e;have:=hL.lt .mc _ hmcb;omega
  have hng:p.g≠s.mc.b:=hL.ne (a:=.page (Yae key)) (b:=.mc) (Yf9 k1) hmcb (by simp);have hp'1:w'.heap[p.g]? = some (.cells #[.int .i64 (p.turn:Int),v'] 180 (0,0)):=(hfr3 p.g hng).trans hp'.1;have hp'2:=Yda (w':=w') hp'.2 (fun k hk=>hfr3 k (fun e=>hnv (by rw [←e];exact hk)));have hm3':Yap w' 3 s.mc.b (s.mc.n+1) (s.mc.M.put (.int .i64 (Yae key:Int)) (.held (.agg #[]))):=hm3;have hvlt:∀ k,v'.ownBlock=some k→k<w'.heap.size:=fun k hk=>(World.ownsRow.lt hp'2 k hk).2
  generalize hn:Yae key=n at *;have hgo:Yab w1 w' s' (s'.put n ⟨p.g,p.turn,v'⟩ (Yaw (s.cont n) key is val)):=by
   have hB:∀ tag,tag≠.row n→(s'.put n ⟨p.g,p.turn,v'⟩ (Yaw (s.cont n) key is val)).blk tag=s'.blk tag:=fun tag ht=>by
    cases tag using Tag.elim with
    | page m=>
     by_cases hm:m=n
     ·subst hm;simp [Sv.put,k1]
     ·simp [Sv.put,hm]
    | row m=>
     have hm:m≠n:=fun e=>ht (by rw [e])
     simp [Sv.put,hm]
    | _=>rfl
   have hBr:(s'.put n ⟨p.g,p.turn,v'⟩ (Yaw (s.cont n) key is val)).blk (.row n)=v'.ownBlock:=by simp [Sv.put]
   have hgr:Ydb s' (s'.put n ⟨p.g,p.turn,v'⟩ (Yaw (s.cont n) key is val)) w1.heap.size:=fun tag k hk=>by
    by_cases ht:tag=.row n
    ·subst ht
     rw [hBr] at hk;rcases hvb with h1 | ⟨q,h1,h2⟩
     ·exact .inl (by rw [Yhj k1,←h1];exact hk)
     ·rw [h2] at hk;simp at hk;exact .inr (by omega)
    ·rw [hB tag ht] at hk;exact .inl hk
   have hoff:∀ q,q<w1.heap.size→q≠p.g→q≠s.mc.b→p.v.ownBlock≠some q→w'.heap[q]? = w1.heap[q]?:=fun q h1 h2 h3 h4=>(hfr3 q h3).trans (hfr q h1 h2 h4)
   refine ⟨?_,?_,hgr,fun q hq hnt=>hoff q hq (fun e=>hnt (.page n) (by rw [Yf9 k1,e])) (fun e=>hnt .mc (by rw [hmcb,e])) (fun e=>hnt (.row n) (by rw [Yhj k1];exact e)),hb2.trans hb3⟩
   ·refine hL.step (fun tag=>tag=.mc∨tag=.page n∨tag=.row n) ?_ ?_ ?_ ?_ ?_ (by omega)
    ·intro tag ht
     simp only [not_or] at ht;obtain ⟨t1,t2,t3⟩:=ht;refine ⟨hB tag t3,fun W hW=>?_⟩
     cases tag using Tag.elim with
     | page m=>have hm:m≠n:=fun e=>t2 (by rw [e]);intro y hy;simp [Sv.put,hm] at hy;exact hW y hy
     | row m=>have hm:m≠n:=fun e=>t3 (by rw [e]);intro y hy;simp [Sv.put,hm] at hy ⊢;exact hW y hy
     | mc=>exact absurd rfl t1
     | _=>exact hW
    ·intro tag k ht hk
     simp only [not_or] at ht;obtain ⟨t1,t2,t3⟩:=ht;exact hoff k (hL.lt tag k hk) (fun e=>t2 (hL.apart tag (.page n) k hk (by rw [Yf9 k1,e]))) (fun e=>t1 (hL.apart tag .mc k hk (by rw [hmcb,e]))) (fun e=>t3 (hL.apart tag (.row n) k hk (by rw [Yhj k1];exact e)))
    ·rintro tag (rfl | rfl | rfl)
     ·show Yap w' 3 s'.mc.b (s'.mc.n+1) (s'.mc.M.put (.int .i64 (n:Int)) (.held (.agg #[])))
      rw [hmcs];exact hm3'
     ·intro y hy
      simp [Sv.put] at hy;subst hy;exact hp'1
     ·intro y hy
      simp [Sv.put] at hy;subst hy;simp only [Sv.put,if_true];exact hp'2
    ·rintro tag k ht hk
     by_cases htr:tag=.row n
     ·subst htr
      rcases hgr _ k hk with h1 | h1
      ·exact .inl h1
      ·rw [hBr] at hk;exact .inr ⟨h1,hvlt k hk⟩
     ·rw [hB tag htr] at hk;exact .inl hk
    ·intro a b k ha hb h1 h2
     by_cases har:a=.row n
     ·by_cases hbr:b=.row n
      ·rw [har,hbr]
      ·exfalso
       subst har;rw [hBr] at h1;rw [hB b hbr] at h2;rcases hb with rfl | rfl | rfl
       ·rw [hmcb] at h2;simp at h2;exact hnv (by rw [h2];exact h1)
       ·rw [Yf9 k1] at h2;simp at h2;exact hne' (by rw [h2];exact h1)
       ·exact hbr rfl
     ·by_cases hbr:b=.row n
      ·exfalso
       subst hbr;rw [hBr] at h2;rw [hB a har] at h1;rcases ha with rfl | rfl | rfl
       ·rw [hmcb] at h1;simp at h1;exact hnv (by rw [h1];exact h2)
       ·rw [Yf9 k1] at h1;simp at h1;exact hne' (by rw [h1];exact h2)
       ·exact har rfl
      ·rw [hB a har] at h1
       rw [hB b hbr] at h2;exact hL.apart a b k h1 h2
   ·refine { dsz:=hG.dsz,dv:=hG.dv,fuse:=hG.fuse,ok:=hG.ok,wn:=hG.wn,ln:=hG.ln,db:=hG.db,wb:=hG.wb,have':=fun m y hm hy zd=>?_,lack:=fun m hm hy zd=>?_,room:=?_,load:=fun m hm=>?_,chk:=fun kl hkl=>?_,logd:=hG.logd,wl:=hG.wl,rise:=fun m hm=>?_,st:=hG.st,ct:=hG.ct,ac:=hG.ac,mon:=hG.mon,mcn:=?_,isOpen:=hG.isOpen,notOpen:=hG.notOpen }
    ·by_cases hmn:m=n
     ·subst hmn
      simp [Sv.put] at hy;subst hy;exact hG.have' m p hm k1 zd
     ·simp [Sv.put,hmn] at hy
      exact hG.have' m y hm hy zd
    ·by_cases hmn:m=n
     ·subst hmn;simp [Sv.put] at hy
     ·simp [Sv.put,hmn] at hy
      exact hG.lack m hm hy zd
    ·have:=hG.room
     show s'.mp.n+Yfm (fun m=>if m=n then some ⟨p.g,p.turn,v'⟩ else s'.pgs m)≤8;rw [Yyj s'.pgs n p _ k1];exact this
    ·obtain ⟨a1,a2,a3,a4,a5⟩:=hG.load m hm
     have hIs:=World.ownsMap.isMap (hL.comp .mc);have hch:(Sv.put s' n ⟨p.g,p.turn,v'⟩ (Yaw (s.cont n) key is val)).chg m=if m=n then true else s'.chg m:=by
      show Maps.has (s'.mc.M.put (.int .i64 (n:Int)) (.held (.agg #[]))) (Yeo m)=_;exact Yyd hIs n m _
     refine ⟨a1,fun y hy=>?_,fun hc=>?_,fun hc=>?_,a5⟩
     ·by_cases hmn:m=n
      ·subst hmn
       simp [Sv.put] at hy;subst hy;exact a2 p k1
      ·simp [Sv.put,hmn] at hy
       exact a2 y hy
     ·rw [hch] at hc
      by_cases hmn:m=n
      ·rw [if_pos hmn] at hc;cases hc
      ·rw [if_neg hmn] at hc
       simp only [Sv.put,hmn,if_false];exact a3 hc
     ·by_cases hmn:m=n
      ·simp [Sv.put,hmn]
      ·rw [hch,if_neg hmn] at hc
       simp only [Sv.put,hmn,if_false];exact a4 hc
    ·have hkl':Maps.has (s'.mc.M.put (.int .i64 (n:Int)) (.held (.agg #[]))) kl=true:=hkl
     by_cases he:kl=.int .i64 (n:Int)
     ·exact ⟨n,hbl,he⟩
     ·rw [Maps.has_put_other he] at hkl';exact hG.chk kl hkl'
    ·by_cases hmn:m=n
     ·subst hmn
      simp only [Sv.put,if_true];refine ⟨Yfo r1 key is val,hfit,fun y hy=>?_⟩;rcases Yhk r1 key is val hy with h1 | ⟨_,h1⟩
      ·exact r3 y h1
      ·rw [h1];exact ⟨hks,hvs⟩
     ·simp only [Sv.put,hmn,if_false]
      exact hG.rise m hm
    ·show s'.mc.n+1≤s'.len
     rw [hmcs,hlens];omega
  have hall:=k3.trans hgo;exact ⟨rfl,s',_,k2,Yab.wrap h k4 hall (fun q _ _=>rfl) (Below.refl _ _)⟩
theorem Yfa (D:Array Value) (ws:List (Nat×List Value)) (a a':Nat) (S:List Value) (v':Value) (hne:a'≠a) (ha:a<434):Yay (D.setIfInBounds 27776 v') (ws ++ [(a',S)]) a=Yay D ws a:=by
 unfold Yay;have h1:(ws ++ [(a',S)]).reverse.find? (fun p=>p.1 == a)=ws.reverse.find? (fun p=>p.1 == a):=by
  rw [List.reverse_append];simp [hne]
 have h2:(D.setIfInBounds 27776 v').extract (a*64) (a*64+64)=D.extract (a*64) (a*64+64):=by
  apply Array.ext_getElem?;intro i;simp only [Array.getElem?_extract,Array.size_setIfInBounds];split
  ·exact Array.getElem?_setIfInBounds_ne (by omega)
  ·rfl
 rw [h1,h2]
theorem Yny (D:Array Value) (ws:List (Nat×List Value)) (a:Nat) (S:List Value):Yay D (ws ++ [(a,S)]) a=S:=by
 unfold Yay;rw [List.reverse_append];simp
theorem Yf8.same {D D':Array Value} {ws':List (Nat×List Value)} {i:Nat} {a c:Int} {e:Yac} (h:Yf8 D ws i a c e) (he:Yay D' ws' (34+i)=Yay D ws (34+i)):Yf8 D' ws' i a c e:=⟨he.trans h.1,h.2⟩
theorem Yi6.snoc {D:Array Value} (h:Yi6 D ws start len lg) (hl:len<400) (hs:0≤start∧start<4294967295) (e:Yac) (c:Int) (v':Value)
 (hc:0≤c∧c<4294967296) (he:e.Fits) (ho:e.oldIs=false→e.old.size=0) (hn:e.newIs=false→e.new.size=0):Yi6 (D.setIfInBounds 27776 v') (ws ++ [(34+len,Yam start c e.body)]) start (len+1) (lg ++ [(e,c)]):=by
 have hlen:=h.len
 refine ⟨by rw [List.length_append,hlen];rfl,fun i hi=>?_,fun i hi hi4=>?_⟩
 ·rw [List.length_append] at hi
  simp only [List.length_singleton] at hi;by_cases hlt:i<lg.length
  ·rw [List.getElem_append_left hlt]
   exact (h.at' i hlt).same (Yfa _ _ _ _ _ _ (by omega) (by omega))
  ·have hi':i=lg.length:=by omega
   subst hi';rw [List.getElem_append_right (Nat.le_refl _)];simp only [Nat.sub_self,List.getElem_cons_zero];exact ⟨by rw [hlen,Yny],hs.1,hs.2,hc.1,hc.2,he,ho,hn⟩
 ·obtain ⟨a,c',e',h1,h2⟩:=h.rest i (by omega) hi4
  exact ⟨a,c',e',h1.same (Yfa _ _ _ _ _ _ (by omega) (by omega)),h2⟩
theorem Yrz (hl:lg.length=len) (hm:m≤len) (h:ws=Yfn start m (lg.drop m)) (e:Yac×Int):ws ++ [(34+len,Yam start e.2 e.1.body)]=Yfn start m ((lg ++ [e]).drop m):=by
 rw [List.drop_append_of_le_length (by omega),Yrv,←h,List.length_drop,hl,show m+(len - m)=len by omega]
theorem Ylt (a b:Int) (bl:List Value) (h:∀ u∈bl,Ycm u):∀ u∈Yam a b bl,Ycm u:=fun u hu=>by
 simp only [Yam,List.mem_append] at hu;rcases hu with ((hu | hu) | hu) | hu
 ·rcases hu with hu | hu
  ·exact Ygp _ _ u hu
  ·exact Ygp _ _ u hu
 ·exact h u hu
 ·exact Ynl _ u hu
 ·rcases hu with hu | hu
  ·exact Ygp _ _ u hu
  ·exact Ygp _ _ u hu
def Ybr (s:Sv) (t:Int) (x:TxE) (e:Yac) (v':Value):Sv:=
 { s with len:=s.len+1,count:=s.count+1,D:=s.D.setIfInBounds 27776 v',ws:=s.ws ++ [(34+s.len,Yam s.start (s.count+1) (Yac.body { e with tx:=t,prev:=(x.last:Int) }))],v:=v',tx:=fun u=>if u=t then some { x with last:=s.len+1 } else s.tx u,log:=s.log ++ [({ e with tx:=t,prev:=(x.last:Int) },s.count+1)] }
theorem Yyk (s:Sv) (t:Int) (x:TxE) (e:Yac) (v':Value):(Ybr s t x e v').cells=s.cells.setIfInBounds 1 (.int .i64 ((s.len+1:Nat):Int)):=by
 unfold Sv.cells;have:(Ybr s t x e v').made=s.made:=rfl;rw [this]
 cases s.made <;> simp [Ybr]
theorem Yki (h:Yan w s) (g:Yar s) (hh:Yao s q) (hlen:s.len≤390) (t:Int) (ht:0≤t∧t<256) (x:TxE) (hx:s.tx t=some x) (e:Yac) (he:Yac.Fits { e with tx:=t,prev:=(x.last:Int) }) (hoe:e.oldIs=false→e.old.size=0) (hne:e.newIs=false→e.new.size=0):
 Calls prog 288 #[.pointer (some ⟨s.kb,0,none⟩),.int .i64 t,.agg e.cells] w fun r w'=>r=.returned (.tuple #[])∧∃ v',Yab w w' s (Ybr s t x e v')∧Yao (Ybr s t x e v') q:=by
 have hwn:=g.wn
 have hct:=g.ct
 have hac:=g.ac
 have hown:w.ownsRow (s.db+1) 143 65 s.v s.ws.length (Ycs s.ws):=h.comp .uns
 have hn:∀ tag k,s.blk tag=some k→tag≠.uns→s.v.ownBlock≠some k:=fun tag k hk ht' e=>ht' (h.apart tag .uns k hk e)
 refine (Yx4 s.kb s.vb s.db s.mo.b s.mo.n x.tb x.hb s.mo.M s.cells s.ty s.len s.start s.count s.turn s.D s.ws s.v e t (x.last:Int) w (h.comp .kind) (Yb1 s (by omega) rfl) (Yb1 s (by omega) rfl) (Yb1 s (by omega) rfl) hlen (h.comp .vol) g.st.1 g.st.2 hct.1 (by omega) (h.disk g) g.fuse hown (by omega)
  (h.ne (a:=.kind) (b:=.vol) rfl rfl (by simp)) (h.ne (a:=.kind) (b:=.disk) rfl rfl (by simp)) (h.ne (a:=.vol) (b:=.disk) rfl rfl (by simp)) (hn .kind _ rfl (by simp)) (hn .vol _ rfl (by simp)) (h.ne (a:=.tx t) (b:=.kind) (Yib hx) rfl (by simp)) (h.ne (a:=.tx t) (b:=.vol) (Yib hx) rfl (by simp)) (h.ne (a:=.tx t) (b:=.disk) (Yib hx) rfl (by simp)) (hn (.tx t) _ (Yib hx) (by simp))
  ht (h.comp .mo) (g.isOpen t x hx) (h.comp (.tx t) x hx) he).mono ?_
 rintro r w' ⟨rfl,v',k1,k2,k3,k4,k5,k6,k7,k8⟩
 have e1:(Ybr s t x e v').ws=s.ws ++ [(34+s.len,Yam s.start (s.count+1) (Yac.body { e with tx:=t,prev:=(x.last:Int) }))]:=rfl
 have k4':w'.ownsRow (s.db+1) 143 65 v' (Ybr s t x e v').ws.length (Ycs (Ybr s t x e v').ws):=by
  rw [e1,List.length_append];exact k4
 have hB:∀ tag,tag≠.uns→(Ybr s t x e v').blk tag=s.blk tag:=fun tag ht'=>by
  cases tag using Tag.elim with
  | uns=>exact absurd rfl ht'
  | tx u=>
   by_cases hu:u=t
   ·subst hu;simp [Ybr,hx]
   ·simp [Ybr,hu]
  | held u=>
   by_cases hu:u=t
   ·subst hu;simp [Ybr,hx]
   ·simp [Ybr,hu]
  | _=>rfl
 have hgr:Ydb s (Ybr s t x e v') w.heap.size:=fun tag k hk=>by
  by_cases hu:tag=.uns
  ·subst hu
   rcases k5 with h1 | ⟨j,h1,h2⟩
   ·exact .inl (h1.symm.trans hk)
   ·have:v'.ownBlock=some k:=hk
    rw [h2] at this;simp at this;exact .inr (by omega)
  ·rw [hB tag hu] at hk;exact .inl hk
 have hul:∀ k,v'.ownBlock=some k→s.db+1≤k∧k<w'.heap.size:=World.ownsRow.lt k4
 have hul1:∀ tag k,s.blk tag=some k→tag≠.uns→v'.ownBlock≠some k:=fun tag k hk htg e5=>by
  rcases k5 with h1 | ⟨j,h1,h2⟩
  ·exact hn tag k hk htg (by rw [←h1];exact e5)
  ·rw [h2] at e5;simp at e5;have:=h.lt tag k hk;omega
 refine ⟨rfl,v',⟨?_,?_,hgr,fun k hk hnt=>k7 k hk (fun e5=>hnt .kind (by rw [e5];rfl)) (fun e5=>hnt .vol (by rw [e5];rfl)) (fun e5=>hnt .disk (by rw [e5];rfl)) (fun e5=>hnt (.tx t) (by rw [Yib hx,e5])) (fun e5=>hnt .uns e5),k8⟩,?_⟩
 ·refine h.step (fun tag=>tag=.kind∨tag=.vol∨tag=.disk∨tag=.uns∨tag=.tx t) ?_ ?_ ?_ ?_ ?_ k8.size
  ·intro tag htg
   simp only [not_or] at htg;obtain ⟨t1,t2,t3,t4,t5⟩:=htg;refine ⟨hB tag t4,fun W hW=>?_⟩
   cases tag using Tag.elim with
   | tx u=>have hu:u≠t:=fun e5=>t5 (by rw [e5]);intro y hy;simp [Ybr,hu] at hy;exact hW y hy
   | held u=>
    intro y hy;by_cases hu:u=t
    ·subst hu
     simp [Ybr] at hy;subst hy;exact hW x hx
    ·simp [Ybr,hu] at hy;exact hW y hy
   | kind=>exact absurd rfl t1
   | vol=>exact absurd rfl t2
   | disk=>exact absurd rfl t3
   | uns=>exact absurd rfl t4
   | _=>exact hW
  ·intro tag k htg hk
   simp only [not_or] at htg;obtain ⟨t1,t2,t3,t4,t5⟩:=htg;exact k7 k (h.lt tag k hk) (fun e5=>t1 (h.apart tag .kind k hk (by rw [e5];rfl))) (fun e5=>t2 (h.apart tag .vol k hk (by rw [e5];rfl))) (fun e5=>t3 (h.apart tag .disk k hk (by rw [e5];rfl))) (fun e5=>t5 (h.apart tag (.tx t) k hk (by rw [Yib hx,e5]))) (fun e5=>t4 (h.apart tag .uns k hk e5))
  ·rintro tag (rfl | rfl | rfl | rfl | rfl)
   ·show w'.heap[s.kb]? = some (.cells (Ybr s t x e v').cells s.ty (0,0))
    rw [Yyk];exact k1
   ·exact k2
   ·exact k3
   ·exact k4'
   ·intro y hy
    simp [Ybr] at hy;subst hy;exact k6
  ·intro tag k htg hk
   by_cases hu:tag=.uns
   ·rcases hgr tag k hk with h1 | h1
    ·exact .inl h1
    ·subst hu;exact .inr ⟨h1,(hul k hk).2⟩
   ·rw [hB tag hu] at hk;exact .inl hk
  ·intro a b k ha hb h1 h2
   by_cases hau:a=.uns
   ·by_cases hbu:b=.uns
    ·rw [hau,hbu]
    ·rw [hB b hbu] at h2
     subst hau;exact absurd h1 (hul1 b k h2 hbu)
   ·rw [hB a hau] at h1
    by_cases hbu:b=.uns
    ·subst hbu
     exact absurd h2 (hul1 a k h1 hau)
    ·rw [hB b hbu] at h2
     exact h.apart a b k h1 h2
 ·have hbody:(Yac.body { e with tx:=t,prev:=(x.last:Int) }).length≤48:=by rw [Yac.body_length _ he];omega
  refine { dsz:=by show (s.D.setIfInBounds 27776 v').size=27779;rw [Array.size_setIfInBounds];exact g.dsz,dv:=?_,fuse:=?_,ok:=?_,wn:=?_,ln:=?_,db:=?_,wb:=?_,have':=g.have',lack:=g.lack,room:=g.room,load:=fun n hn'=>?_,chk:=g.chk,logd:=?_,wl:=?_,rise:=g.rise,st:=g.st,ct:=?_,ac:=g.ac,mon:=g.mon,mcn:=?_,isOpen:=fun u y hy=>?_,notOpen:=fun u hy=>?_ }
  ·show (s.D.setIfInBounds 27776 v')[27776]? = some v'
   exact Array.getElem?_setIfInBounds_self_of_lt (by rw [g.dsz];omega)
  ·show (s.D.setIfInBounds 27776 v')[27777]? = some (.int .i64 0)
   rw [Array.getElem?_setIfInBounds_ne (by omega)];exact g.fuse
  ·intro p hp
   rcases List.mem_append.1 hp with h1 | h1
   ·exact g.ok p h1
   ·simp at h1
    subst h1;exact ⟨by show 34+s.len<434;omega,Yeh _ _ _ hbody,Yfy _ _ _ (Yac.body_one _)⟩
  ·rw [e1,List.length_append]
   show s.ws.length+1≤s.len+1+100;omega
  ·show s.len+1≤391
   omega
  ·intro i u hi hu
   have hu':(s.D.setIfInBounds 27776 v')[i]? = some u:=hu;rw [Array.getElem?_setIfInBounds_ne (by omega)] at hu';exact g.db i u hi hu'
  ·intro p hp
   rcases List.mem_append.1 hp with h1 | h1
   ·exact g.wb p h1
   ·simp at h1
    subst h1;exact Ylt _ _ _ (Yac.body_byte _ he)
  ·obtain ⟨⟨a1,a2,a3,a4⟩,b2,b3,b4,b5⟩:=g.load n hn'
   refine ⟨⟨⟨?_,?_⟩,⟨?_,?_⟩,a3,a4⟩,b2,b3,b4,b5.1.mono (by show s.count≤s.count+1;omega),b5.2.mono (by show s.count≤s.count+1;omega)⟩
   ·exact (Yfa _ _ _ _ _ _ (by omega) (by omega)).trans a1.1
   ·exact (Yfa _ _ _ _ _ _ (by omega) (by omega)).trans a1.2
   ·exact (Yfa _ _ _ _ _ _ (by omega) (by omega)).trans a2.1
   ·exact (Yfa _ _ _ _ _ _ (by omega) (by omega)).trans a2.2
  ·exact g.logd.snoc (by omega) g.st { e with tx:=t,prev:=(x.last:Int) } (s.count+1) v' (by omega) he hoe hne
  ·obtain ⟨m,hm,hws⟩:=g.wl
   exact ⟨m,by show m≤s.len+1;omega,Yrz g.logd.len hm hws ({ e with tx:=t,prev:=(x.last:Int) },s.count+1)⟩
  ·show 0≤s.count+1∧s.count+1≤100+((s.len+1:Nat):Int)+1000*s.acts
   omega
  ·have:=g.mcn
   show s.mc.n≤s.len+1;omega
  ·by_cases hu:u=t
   ·subst hu
    simp [Ybr] at hy;subst hy;exact g.isOpen u x hx
   ·simp [Ybr,hu] at hy
    exact g.isOpen u y hy
  ·by_cases hu:u=t
   ·subst hu;simp [Ybr] at hy
   ·simp [Ybr,hu] at hy
    exact g.notOpen u hy
 ·intro u y hy
  by_cases hu:u=t
  ·subst hu
   simp [Ybr] at hy;subst hy;exact hh u x hx
  ·simp [Ybr,hu] at hy
   exact hh u y hy
theorem Yyl (h:Yan w s) (g:Yar s) (hh:Yao s q) (hq:q≤1999999999999) (t:Int) (ht:Yax t) (x:TxE) (hx:s.tx t=some x) (key:ByteArray) (hks:key.size≤8):
 Calls prog 302 #[.pointer (some ⟨s.kb,0,none⟩),.int .i64 t,.string key] w fun e w'=>e=.returned (.agg #[.bool (Yag (s.cont (Yae key)) key).1,.string (Yag (s.cont (Yae key)) key).2])∧∃ s',Yau (granted s t x key 1) s'∧Yab w w' s s'∧Yao s' (q+1):=by
 have KG:Hid (∀ W,Below w.heap.size w W→Calls prog 294 #[.pointer (some ⟨s.kb,0,none⟩),.int .i64 t,.string key,.int .i64 1] W fun e w'=>e=.returned (.tuple #[])∧Yab W w' s (granted s t x key 1)∧Yao (granted s t x key 1) (q+1)):=fun W hW=>Ylr (h.below hW) g hh (by omega) t ht x hx key hks 1 (by omega)
 have KR:Hid (∀ W,Yab (w.alloc (.cells #[.bool false,.string ByteArray.empty] 38)) W s (granted s t x key 1)→Calls prog 289 #[.pointer (some ⟨s.kb,2,none⟩),.string key] W fun e w'=>e=.returned (.agg #[.bool (Yag (s.cont (Yae key)) key).1,.string (Yag (s.cont (Yae key)) key).2])∧∃ s',Yau (granted s t x key 1) s'∧Yab W w' (granted s t x key 1) s'):=fun W hW=>Yls hW.lies hW.good key hks
 have HL:=Yh h
 have HB0:Hid (∀ o,Below w.heap.size w (w.alloc o)):=fun o=>(Below.refl _ w).alloc (Nat.le_refl _) _
 generalize Yag (s.cont (Yae key)) key=u at KR ⊢
 obtain ⟨ui,us⟩:=u
 simp only at KR ⊢
 generalize hs1:granted s t x key 1=s1 at KG KR ⊢
 generalize hkb:s.kb=kb at KG KR ⊢
 clear h g hh hx hs1
 go_enter func302,ntmps302
 go_wp2_with (first
  | (go_at_call 294;go_must (
   refine (KG.out _ (HB0.out _)).mono ?_;rintro e w1 ⟨rfl,hg1,hh1⟩;have HG1:=Yh hg1;have HH1:=Yh hh1;clear hg1 hh1))
  | (go_at_call 289;go_must (
   refine (KR.out _ HG1.out).mono ?_;rintro e w2 ⟨rfl,s2,hp2,hg2⟩;have HP2:=Yh hp2;have HG2:=Yh (HG1.out.trans hg2);have q2:=(HG2.out.own HL.out (q:=w.heap.size) (Nat.le_refl _) (by simp)).1.trans (heap_alloc_new w _);have x0:=Yaa (j:=0) q2 rfl;have x1:=Yaa (j:=1) q2 rfl;have y0:=Yah 0 q2;have y1:=Yah 1 q2;have HQQ:=Yh q2;clear hp2 hg2 q2)))
 have k3:=Yak _ w.heap.size 1 (.string us) _ 38 (Yak w2 w.heap.size 0 (.bool ui) _ 38 HQQ.out)
 refine bodyPost_ret (v:=.agg #[.bool ui,.string us]) (results_cell_row Tryz.results302 _ _ w.heap.size 38 #[.bool ui,.string us] (0,0) _ rfl k3 underlying38 rfl (by kernel_rfl)) rfl ⟨rfl,s2,HP2.out,?_,HP2.out.held HH1.out⟩
 refine Yab.wrap HL.out (HB0.out _) HG2.out (fun k _ hk=>?_) ?_
 ·have hk':k≠w.heap.size:=by simp at hk;omega
  rw [Below.heap_setCell _ _ _ _ hk',Below.heap_setCell _ _ _ _ hk']
 ·exact ((Below.refl _ _).setCell (p:=⟨w.heap.size,0,none⟩) (by simp) _).setCell (p:=⟨w.heap.size,1,none⟩) (by simp) _
def acted (s:Sv):Sv:={ s with acts:=s.acts+1 }
theorem Yym (s:Sv):(acted s).cells=s.cells.setIfInBounds 7 (.int .i64 ((s.acts+1:Nat):Int)):=by
 unfold Sv.cells;have:(acted s).made=s.made:=rfl;rw [this]
 cases s.made <;> simp [acted]
theorem Ynz (h:Yan w s) (g:Yar s) (hac:s.acts<120):Yab w (w.setCell ⟨s.kb,7,none⟩ (.int .i64 ((s.acts:Int)+1))) s (acted s):=by
 have hk:w.heap[s.kb]? = some (.cells s.cells s.ty (0,0)):=h.comp .kind;have hn:((s.acts:Int)+1)=((s.acts+1:Nat):Int):=by omega
 have ho:∀ k,k≠s.kb→(w.setCell ⟨s.kb,7,none⟩ (.int .i64 ((s.acts:Int)+1))).heap[k]? = w.heap[k]?:=fun k hk'=>Below.heap_setCell _ _ _ _ hk'
 refine ⟨h.step (fun tag=>tag=.kind) ?_ ?_ ?_ ?_ ?_ ?_,?_,fun tag k hk'=>.inl hk',fun k _ hnt=>ho k (fun e=>hnt .kind (by rw [e];rfl)),(Below.refl _ _).setCell (p:=⟨s.kb,7,none⟩) (Nat.zero_le _) _⟩
 ·intro tag ht
  refine ⟨rfl,fun W hW=>?_⟩
  cases tag using Tag.elim with
  | kind=>exact absurd rfl ht
  | _=>exact hW
 ·intro tag k ht hk'
  exact ho k (fun e=>ht (h.apart tag .kind k hk' (by rw [e];rfl)))
 ·rintro tag rfl
  show (w.setCell ⟨s.kb,7,none⟩ (.int .i64 ((s.acts:Int)+1))).heap[s.kb]? = some (.cells (acted s).cells s.ty (0,0));rw [Yym,←hn];exact Yak w s.kb 7 _ _ s.ty hk
 ·intro tag k _ hk'
  exact .inl hk'
 ·intro a b k ha hb _ _
  rw [ha,hb]
 ·simp
 ·have:=g.ct
  have:=g.mon;exact { dsz:=g.dsz,dv:=g.dv,fuse:=g.fuse,ok:=g.ok,wn:=g.wn,ln:=g.ln,db:=g.db,wb:=g.wb,have':=g.have',lack:=g.lack,room:=g.room,load:=g.load,chk:=g.chk,logd:=g.logd,wl:=g.wl,rise:=g.rise,st:=g.st,ct:=by show 0≤s.count∧s.count≤100+s.len+1000*((s.acts+1:Nat):Int);omega,ac:=by show s.acts+1≤120;omega,mon:=by show s.mo.n≤s.acts+1;omega,mcn:=g.mcn,isOpen:=g.isOpen,notOpen:=g.notOpen }
structure Yid (s s':Sv) (t:Int) (x:TxE) (key:ByteArray) (is:Bool) (val:ByteArray):Prop where
 cont:s'.cont=fun m=>if m=Yae key then Yaw (s.cont m) key is val else s.cont m
 tx:s'.tx=fun u=>if u=t then some { x with last:=s.len+1,nH:=x.nH+1,H:=x.H.put (lit key) (.held (.int .i64 (max (Ybc x.H key) 2))) } else s.tx u
 acts:s'.acts=s.acts+1
 log:s'.log=s.log ++ [(⟨1,t,(x.last:Int),0,key,(Yag (s.cont (Yae key)) key).1,(Yag (s.cont (Yae key)) key).2,is,val⟩,s.count+1)]
 nums:s'.len=s.len+1∧s'.count=s.count+1∧s'.start=s.start∧s'.turn=s.turn∧s'.begun=s.begun
 same:s'.kb=s.kb∧s'.vb=s.vb∧s'.db=s.db∧s'.ty=s.ty∧s'.mo=s.mo∧s'.made=s.made∧s'.mt=s.mt∧s'.mc.n=s.mc.n+1
theorem Yyn {s4:Sv} {key:ByteArray} {is:Bool} {val:ByteArray} {v':Value} {p':PgV} (h2:Yau (granted (acted s) t x key 2) s2) (x2:TxE) (hx2:s2.tx t=some x2)
 (h4:Yau (Ybr s2 t x2 ⟨1,0,0,0,key,(Yag (s.cont (Yae key)) key).1,(Yag (s.cont (Yae key)) key).2,is,val⟩ v') s4):Yid s (s4.put (Yae key) p' (Yaw (s.cont (Yae key)) key is val)) t x key is val:=by
 obtain ⟨P,m,rfl,hm⟩:=h2
 obtain ⟨P',m',rfl,hm'⟩:=h4
 have hx2':x2 = { x with nH:=x.nH+1,H:=x.H.put (lit key) (.held (.int .i64 (max (Ybc x.H key) 2))) }:=by
  simp [granted,acted] at hx2;exact hx2.symm
 subst hx2'
 refine ⟨?_,?_,rfl,rfl,⟨rfl,rfl,rfl,rfl,rfl⟩,rfl,rfl,rfl,rfl,rfl,rfl,rfl,rfl⟩
 ·funext m
  show (if m=Yae key then _ else s.cont m)=_;by_cases hm:m=Yae key
  ·rw [if_pos hm,if_pos hm,hm]
  ·rw [if_neg hm,if_neg hm]
 ·funext u
  show (if u=t then _ else (if u=t then _ else s.tx u))=_;by_cases hu:u=t
  ·rw [if_pos hu,if_pos hu];rfl
  ·rw [if_neg hu,if_neg hu,if_neg hu]
theorem Yab.drew (h:Yab w w' s s'):Yab w w'.drew s s':=⟨h.lies.frame (fun _ _ _=>rfl) (Nat.le_refl _),h.good,h.grown,h.off,h.below.drew⟩
theorem Yr0 (h:∀ p∈ps,p.1.size≤8∧p.2.size≤12) (key:ByteArray):(Yag ps key).2.size≤12:=by
 induction ps with
 | nil=>simp [Yag]
 | cons p r ih=>
  rw [Yag];split
  ·exact (h p (by simp)).2
  ·exact ih (fun q hq=>h q (by simp [hq]))
theorem Yr1 (ps:Yaf) (key:ByteArray):(Yag ps key).1=false→(Yag ps key).2.size=0:=by
 induction ps with
 | nil=>intro _;rfl
 | cons p r ih=>
  rw [Yag];split
  ·intro h;cases h
  ·exact ih
theorem Yyo (h:Yan w s) (g:Yar s) (hh:Yao s q) (hq:q≤1999999999999) (hac:s.acts<120) (hlen:s.len≤390) (t:Int) (ht:0≤t∧t<256) (x:TxE) (hx:s.tx t=some x) (hlast:x.last≤s.len) (key:ByteArray) (hks:key.size≤8) (is:Bool) (val:ByteArray) (hvs:val.size≤12) (hnv:is=false→val.size=0) (hfit:(Yaw (s.cont (Yae key)) key is val).length≤4):
 Calls prog 303 #[.pointer (some ⟨s.kb,0,none⟩),.int .i64 t,.string key,.agg #[.bool is,.string val]] w fun e w'=>e=.returned (.tuple #[])∧∃ s',Yid s s' t x key is val∧Yab w w' s s'∧Yao s' (q+1):=by
 have hti:Yax t:=⟨by omega,by omega⟩
 obtain ⟨W0,hW0⟩:∃ W0,w.alloc (.cells #[.bool is,.string val] 38)=W0:=⟨_,rfl⟩
 have hB0:Below w.heap.size w W0:=by rw [←hW0];exact (Below.refl _ w).alloc (Nat.le_refl _) _
 have hn0:W0.heap[w.heap.size]? = some (.cells #[.bool is,.string val] 38 (0,0)):=by rw [←hW0];exact heap_alloc_new w _
 have hz0:w.heap.size<W0.heap.size:=Yaj hn0
 have hL0:Yan W0 s:=h.below hB0
 have hG1:Yab W0 (W0.setCell ⟨s.kb,7,none⟩ (.int .i64 ((s.acts:Int)+1))) s (acted s):=Ynz hL0 g hac
 have hkw:s.kb<w.heap.size:=h.lt .kind _ rfl
 rw [←hW0,World.setCell_alloc_past _ _ _ _ hkw,hW0] at hG1
 have c7:w.cell? ⟨s.kb,7,none⟩=some (.int .i64 (s.acts:Int)):=Yaa (h.comp .kind) (Yb1 s (by omega) rfl)
 have f7:w.frozen? ⟨s.kb,7,none⟩=false:=Yah 7 (h.comp .kind)
 have hw7:wrap64 ((s.acts:Int)+1)=(s.acts:Int)+1:=by simp only [wrap64];omega
 have KG:Hid (∀ W,Yab W0 W s (acted s)→Calls prog 294 #[.pointer (some ⟨s.kb,0,none⟩),.int .i64 t,.string key,.int .i64 2] W fun e w'=>e=.returned (.tuple #[])∧Yab W0 w' s (granted (acted s) t x key 2)∧Yao (granted (acted s) t x key 2) (q+1)):=fun W hW=>(Ylr hW.lies hW.good hh (by omega) t hti x hx key hks 2 (by omega)).mono fun e w' ⟨h1,h2,h3⟩=>⟨h1,hW.trans h2,h3⟩
 have KR:Hid (∀ W,Yab W0 W s (granted (acted s) t x key 2)→Calls prog 289 #[.pointer (some ⟨s.kb,2,none⟩),.string key] W fun e w'=>e=.returned (.agg #[.bool (Yag (s.cont (Yae key)) key).1,.string (Yag (s.cont (Yae key)) key).2])∧∃ s',Yau (granted (acted s) t x key 2) s'∧Yab W0 w' s s'):=fun W hW=>(Yls hW.lies hW.good key hks).mono fun e w' ⟨h1,s',h2,h3⟩=>⟨h1,s',h2,hW.trans h3⟩
 have hold:=Yr0 (g.rise _ (Ycy key)).2.2 key
 have KE:Hid (∀ W s2,Yau (granted (acted s) t x key 2) s2→Yao s2 (q+1)→Yab W0 W s s2→Calls prog 288 #[.pointer (some ⟨s.kb,0,none⟩),.int .i64 t,.agg #[.int .i64 1,.int .i64 0,.int .i64 0,.int .i64 0,.string key,.bool (Yag (s.cont (Yae key)) key).1,.string (Yag (s.cont (Yae key)) key).2,.bool is,.string val]] W fun e w'=>e=.returned (.tuple #[])∧∃ x2 v',s2.tx t=some x2∧Yab W0 w' s (Ybr s2 t x2 ⟨1,0,0,0,key,(Yag (s.cont (Yae key)) key).1,(Yag (s.cont (Yae key)) key).2,is,val⟩ v')∧Yao (Ybr s2 t x2 ⟨1,0,0,0,key,(Yag (s.cont (Yae key)) key).1,(Yag (s.cont (Yae key)) key).2,is,val⟩ v') (q+1)):=fun W s2 hp hh2 hW=>by
  obtain ⟨P,m,hs2,_⟩:=hp;obtain ⟨x2,hx2,hl2⟩:∃ x2,s2.tx t=some x2∧x2.last=x.last:=⟨{ x with nH:=x.nH+1,H:=x.H.put (lit key) (.held (.int .i64 (max (Ybc x.H key) 2))) },by rw [hs2];simp [granted],rfl⟩;have hkb2:s2.kb=s.kb:=by rw [hs2];rfl
  have hlen2:s2.len=s.len:=by rw [hs2];rfl
  rw [←hkb2];refine (Yki hW.lies hW.good hh2 (by rw [hlen2];exact hlen) t ht x2 hx2 ⟨1,0,0,0,key,(Yag (s.cont (Yae key)) key).1,(Yag (s.cont (Yae key)) key).2,is,val⟩ ⟨by simp,by simpa using ht,by simp only;rw [hl2];omega,by simp,hks,hold,hvs⟩ (Yr1 _ _) hnv).mono ?_;rintro e w' ⟨h1,v',h2,h3⟩;exact ⟨h1,x2,v',hx2,hW.trans h2,h3⟩
 have KS:Hid (∀ W s3 s2 x2 v',Yau (granted (acted s) t x key 2) s2→s2.tx t=some x2→s3=Ybr s2 t x2 ⟨1,0,0,0,key,(Yag (s.cont (Yae key)) key).1,(Yag (s.cont (Yae key)) key).2,is,val⟩ v'→Yao s3 (q+1)→Yab W0 W s s3→Calls prog 80 #[.pointer (some ⟨s.kb,2,none⟩),.string key,.agg #[.bool is,.string val]] W fun e w'=>e=.returned (.tuple #[])∧∃ s',Yid s s' t x key is val∧Yab W0 w' s s'∧Yao s' (q+1)):=fun W s3 s2 x2 v' hp hx2 hs3 hh3 hW=>by
  have hp':=hp;obtain ⟨P,m,hs2,_⟩:=hp';have hkb3:s3.kb=s.kb:=by rw [hs3,hs2];rfl
  have hct3:s3.cont=s.cont:=by rw [hs3,hs2];rfl
  have hmc3:s3.mc=s.mc:=by rw [hs3,hs2];rfl
  have hln3:s3.len=s.len+1:=by rw [hs3,hs2];rfl
  have hmcn:=g.mcn;have K:=Ynx hW.lies hW.good key hks is val hvs (by rw [hmc3,hln3];omega) (by rw [hct3];exact hfit);rw [hkb3,hct3] at K;refine K.mono ?_;rintro e w' ⟨h1,s4,p',h2,h3⟩;exact ⟨h1,_,Yyn hp x2 hx2 (hs3▸h2),hW.trans h3,fun u y hy=>h2.held hh3 u y hy⟩
 have HFIN:Hid (∀ w' s',Yab W0 w' s s'→Yab w w' s s'):=fun w' s' hg=>Yab.wrap h hB0 hg (fun _ _ _=>rfl) (Below.refl _ _)
 have HOWN:Hid (∀ w' s',Yab W0 w' s s'→w'.heap[w.heap.size]? = some (.cells #[.bool is,.string val] 38 (0,0))):=fun w' s' hg=>((hg.own h (Nat.le_refl _) hz0).1).trans hn0
 have HG1:=Yh hG1
 generalize Yag (s.cont (Yae key)) key=u at KR KE KS
 obtain ⟨ui,us⟩:=u
 simp only at KR KE KS
 generalize granted (acted s) t x key 2=s1 at KG KR KE KS
 generalize acted s=s0 at KG HG1
 generalize (s.acts:Int)=ac at c7 hw7 HG1
 generalize hkb:s.kb=kb at KG KR KE KS HG1 c7 f7 hkw ⊢
 clear h g hh hx hfit hnv hG1 hL0 hn0 hold hlast hz0 hB0
 subst hW0
 go_enter func303,ntmps303
 go_wp2_with (first
  | (go_at_call 294;go_must (
   refine (KG.out _ HG1.out).mono ?_;rintro e w1 ⟨rfl,hg1,hh1⟩;have HG2:=Yh hg1;have HH2:=Yh hh1;have z0:w1.cell? ⟨w.heap.size,0,none⟩=some (.bool is):=Yaa (j:=0) (HOWN.out _ _ hg1) rfl;have z1:w1.cell? ⟨w.heap.size,1,none⟩=some (.string val):=Yaa (j:=1) (HOWN.out _ _ hg1) rfl;clear hg1 hh1)))
 go_region_held3 (fun w'=>w'.cell? ⟨w.heap.size,0,none⟩=some (.bool is)∧w'.cell? ⟨w.heap.size,1,none⟩=some (.string val))
  (go_keep)
  (first
   | (go_at_call 289;go_must (
    refine (KR.out _ HG2.out.drew).mono ?_;rintro e w2 ⟨rfl,s2,hp2,hg2⟩;have HP3:=Yh hp2;have HG3:=Yh hg2;have a0:w2.cell? ⟨w.heap.size,0,none⟩=some (.bool is):=Yaa (j:=0) (HOWN.out _ _ hg2) rfl;have a1:w2.cell? ⟨w.heap.size,1,none⟩=some (.string val):=Yaa (j:=1) (HOWN.out _ _ hg2) rfl;clear hp2 hg2))
   | (go_at_call 288;go_must (
    refine (KE.out w2 s2 HP3.out (HP3.out.held HH2.out) HG3.out).mono ?_;rintro e w3 ⟨rfl,x2,v',hx2,hg3,hh3⟩;have HX2:=Yh hx2;have HG4:=Yh hg3;have HH4:=Yh hh3;have b0:w3.cell? ⟨w.heap.size,0,none⟩=some (.bool is):=Yaa (j:=0) (HOWN.out _ _ hg3) rfl;have b1:w3.cell? ⟨w.heap.size,1,none⟩=some (.string val):=Yaa (j:=1) (HOWN.out _ _ hg3) rfl;clear hx2 hg3 hh3)))
 all_goals
  go_wp2;go_region_held3 (fun w'=>w'.cell? ⟨w.heap.size,0,none⟩=some (.bool is)∧w'.cell? ⟨w.heap.size,1,none⟩=some (.string val))
   (go_keep)
   (first
    | (go_at_call 80;go_must (
     refine (KS.out _ _ s2 x2 v' HP3.out HX2.out rfl HH4.out HG4.out.drew).mono ?_;rintro e w4 ⟨rfl,s',hwr,hg4,hh4⟩;have HF:Hid (∃ s',Yid s s' t x key is val∧Yab w w4 s s'∧Yao s' (q+1)):=⟨s',hwr,HFIN.out _ _ hg4,hh4⟩;have d0:w4.cell? ⟨w.heap.size,0,none⟩=some (.bool is):=Yaa (j:=0) (HOWN.out _ _ hg4) rfl;have d1:w4.cell? ⟨w.heap.size,1,none⟩=some (.string val):=Yaa (j:=1) (HOWN.out _ _ hg4) rfl;clear hwr hg4 hh4)))
  all_goals
   go_wp2;go_end0;exact ⟨rfl,HF.out⟩
theorem Yr2 (D:Array Value) (hz:D.size=27779):∀ rs:List (Nat×List Value),Ydn rs.reverse→(∀ a,a<434→((Ybp D rs.reverse).extract (a*64) (a*64+64)).toList=Yay D rs.reverse a)∧(∀ j,27776≤j→(Ybp D rs.reverse)[j]? = D[j]?) ∧
 ((∀ i u,i<27776→D[i]? = some u→Ycm u)→(∀ p∈rs.reverse,∀ u∈p.2,Ycm u)→∀ i u,i<27776→(Ybp D rs.reverse)[i]? = some u→Ycm u)
 | [],_=>⟨fun a _=>by simp [Yay,Ybp],fun j _=>by simp [Ybp],fun h _=>by simpa [Ybp] using h⟩
 | p :: r,hok=>by
  rw [List.reverse_cons] at hok ⊢;obtain ⟨i1,i2,i3⟩:=Yr2 D hz r (fun q hq=>hok q (by simp at hq ⊢;exact .inl hq));obtain ⟨p1,p2,p3⟩:=hok p (by simp);have hzz:=Yhy r.reverse D;rw [Ypq];generalize hA:Ybp D r.reverse=A at i1 i2 i3 hzz ⊢;have hr:∀ a,Yay D (r.reverse ++ [p]) a=if p.1=a then p.2 else Yay D r.reverse a:=fun a=>by
   unfold Yay;rw [List.reverse_append];by_cases h:p.1=a
   ·simp [h]
   ·simp [h]
  refine ⟨fun a ha=>?_,fun j hj=>?_,fun hb hw i u hi hu=>?_⟩
  ·rw [hr]
   by_cases h:p.1=a
   ·rw [if_pos h]
    apply List.ext_getElem?;intro i;rw [Array.getElem?_toList,Array.getElem?_extract,Yip];split
    ·rw [Yf3,if_pos (by omega),show a*64+i - p.1*64=i by omega]
    ·exact (List.getElem?_eq_none (by omega)).symm
   ·rw [if_neg h,←i1 a ha]
    congr 1;apply Array.ext_getElem?;intro i;rw [Array.getElem?_extract,Array.getElem?_extract,Yip];split
    ·rw [Yf3,if_neg (by omega)]
    ·rfl
  ·rw [Yf3,if_neg (by omega)]
   exact i2 j hj
  ·rw [Yf3] at hu
   split at hu
   ·exact hw p (by simp) u (List.mem_of_getElem? hu)
   ·exact i3 hb (fun q hq=>hw q (by simp at hq ⊢;exact .inl hq)) i u hi hu
theorem Ylu (D:Array Value) (ws:List (Nat×List Value)) (hz:D.size=27779) (hok:Ydn ws):(∀ a,a<434→((Ybp D ws).extract (a*64) (a*64+64)).toList=Yay D ws a)∧(∀ j,27776≤j→(Ybp D ws)[j]? = D[j]?) ∧
 ((∀ i u,i<27776→D[i]? = some u→Ycm u)→(∀ p∈ws,∀ u∈p.2,Ycm u)→∀ i u,i<27776→(Ybp D ws)[i]? = some u→Ycm u):=by
 have:=Yr2 D hz ws.reverse
 rw [List.reverse_reverse] at this
 exact this hok
def synced (s:Sv):Sv:={ s with D:=(Ybp s.D s.ws).setIfInBounds 27776 (.slice none 0 0),ws:=[],v:=.slice none 0 0 }
theorem Yi8 (s:Sv) (g:Yar s) (a:Nat) (ha:a<434):Yay (synced s).D (synced s).ws a=Yay s.D s.ws a:=by
 obtain ⟨h1,_,_⟩:=Ylu s.D s.ws g.dsz g.ok;rw [←h1 a ha];show (((Ybp s.D s.ws).setIfInBounds 27776 (.slice none 0 0)).extract (a*64) (a*64+64)).toList=_;congr 1;apply Array.ext_getElem?;intro i;simp only [Array.getElem?_extract,Array.size_setIfInBounds];split
 ·exact Array.getElem?_setIfInBounds_ne (by omega)
 ·rfl
theorem Yar.synced (g:Yar s):Yar (synced s):=by
 obtain ⟨h1,h2,h3⟩:=Ylu s.D s.ws g.dsz g.ok;refine { dsz:=?_,dv:=?_,fuse:=?_,ok:=fun p hp=>(List.not_mem_nil hp).elim,wn:=Nat.zero_le _,ln:=g.ln,db:=fun i u hi hu=>?_,wb:=fun p hp=>(List.not_mem_nil hp).elim,have':=g.have',lack:=g.lack,room:=g.room,load:=fun n hn=>?_,chk:=g.chk,logd:=?_,wl:=⟨s.len,Nat.le_refl _,by show []=Yfn s.start s.len (s.log.drop s.len);rw [List.drop_of_length_le (Nat.le_of_eq g.logd.len)];rfl⟩,rise:=g.rise,st:=g.st,ct:=g.ct,ac:=g.ac,mon:=g.mon,mcn:=g.mcn,isOpen:=g.isOpen,notOpen:=g.notOpen }
 ·show ((Ybp s.D s.ws).setIfInBounds 27776 (.slice none 0 0)).size=27779
  rw [Array.size_setIfInBounds,Yhy];exact g.dsz
 ·show ((Ybp s.D s.ws).setIfInBounds 27776 (.slice none 0 0))[27776]? = some (.slice none 0 0)
  exact Array.getElem?_setIfInBounds_self_of_lt (by rw [Yhy,g.dsz];omega)
 ·show ((Ybp s.D s.ws).setIfInBounds 27776 (.slice none 0 0))[27777]? = some (.int .i64 0)
  rw [Array.getElem?_setIfInBounds_ne (by omega),h2 _ (by omega)];exact g.fuse
 ·have hu':((Ybp s.D s.ws).setIfInBounds 27776 (.slice none 0 0))[i]? = some u:=hu
  rw [Array.getElem?_setIfInBounds_ne (by omega)] at hu';exact h3 g.db g.wb i u hi hu'
 ·obtain ⟨⟨a1,a2,a3,a4⟩,b2,b3,b4,b5⟩:=g.load n hn
  refine ⟨⟨⟨?_,?_⟩,⟨?_,?_⟩,a3,a4⟩,b2,b3,b4,b5⟩
  ·exact (Yi8 s g _ (by omega)).trans a1.1
  ·exact (Yi8 s g _ (by omega)).trans a1.2
  ·exact (Yi8 s g _ (by omega)).trans a2.1
  ·exact (Yi8 s g _ (by omega)).trans a2.2
 ·have hl:=g.logd.len
  have hln:=g.ln;refine ⟨g.logd.len,fun i hi=>?_,fun i hi hi4=>?_⟩
  ·exact (g.logd.at' i hi).same (Yi8 s g (34+i) (by have hi':i<s.log.length:=hi;omega))
  ·obtain ⟨a,c,e,k1,k2⟩:=g.logd.rest i hi hi4
   exact ⟨a,c,e,k1.same (Yi8 s g (34+i) (by omega)),k2⟩
theorem Yn0 (h:Yan w s) (g:Yar s) (hne:s.ws≠[]):
 Calls prog 287 #[.pointer (some ⟨s.kb,0,none⟩)] w fun e w'=>e=.returned (.tuple #[])∧Yab w w' s (synced s):=by
 have hown:w.ownsRow (s.db+1) 143 65 s.v s.ws.length (Ycs s.ws):=h.comp .uns
 have hln:=g.ln
 have hwn:=g.wn
 have KS:Hid (Calls prog 117 #[.pointer (some ⟨s.db,0,none⟩)] w fun e w'=>e=.returned (.tuple #[])∧Yab w w' s (synced s)):=by
  rcases hown.2 with ⟨_,h2⟩ | ⟨gb,cap,cur,e1,hb,hgc,_,_,_,hcur⟩
  ·exact absurd (List.length_eq_zero_iff.1 h2) hne
  ·have hdv:s.D[27776]? = some (.slice (some ⟨gb,0,none⟩) s.ws.length cap):=by rw [g.dv,e1]
   refine (Ymu s.db (s.db+1) gb cap s.ws s.D cur w (by omega) hb g.ok (by omega) (h.comp .disk) g.dsz hdv hgc (fun j u hu=>?_)).mono ?_
   ·rw [←hcur,List.getElem?_take] at hu
    split at hu
    ·simpa using hu
    ·cases hu
   ·rintro e w' ⟨rfl,k1,k2,k3⟩
    have hB:∀ tag k,(synced s).blk tag=some k→s.blk tag=some k:=fun tag k hk=>by
     cases tag using Tag.elim with
     | uns=>simp [synced,Value.ownBlock] at hk
     | _=>exact hk
    refine ⟨rfl,h.step (fun tag=>tag=.disk∨tag=.uns) ?_ ?_ ?_ ?_ ?_ k3.size,g.synced,fun tag k hk=>.inl (hB tag k hk),fun k hk hnt=>k2 k hk (fun e=>hnt .disk (by rw [e];rfl)),k3⟩
    ·intro tag ht
     simp only [not_or] at ht
     cases tag using Tag.elim with
     | disk=>exact absurd rfl ht.1
     | uns=>exact absurd rfl ht.2
     | _=>exact ⟨rfl,fun W hW=>hW⟩
    ·intro tag k ht hk
     simp only [not_or] at ht;exact k2 k (h.lt tag k hk) (fun e=>ht.1 (h.apart tag .disk k hk (by rw [e];rfl)))
    ·rintro tag (rfl | rfl)
     ·exact k1
     ·exact World.ownsRow_nil _ _ _ _
    ·intro tag k _ hk
     exact .inl (hB tag k hk)
    ·intro a b k _ _ h1 h2
     exact h.apart a b k (hB a k h1) (hB b k h2)
 have c0:w.cell? ⟨s.kb,0,none⟩=some (.pointer (some ⟨s.vb,0,none⟩)):=Yaa (h.comp .kind) (Yb1 s (by omega) rfl)
 have v0:w.cell? ⟨s.vb,0,none⟩=some (.pointer (some ⟨s.db,0,none⟩)):=Yaa (h.comp .vol) rfl
 generalize Yab w=GO at KS ⊢
 generalize synced s=s' at KS ⊢
 clear hown
 go_enter func287,ntmps287
 go_wp2_with (first
  | (go_at_call 117;go_must (
   refine KS.out.mono ?_;rintro e w1 ⟨rfl,hg⟩;have HG:=Yh hg;clear hg)))
 go_end0
 exact ⟨rfl,HG.out⟩
def Ybv (s:Sv) (t:Int):Sv:={ s with tx:=fun u=>if u=t then none else s.tx u,mo:=⟨s.mo.b,s.mo.n,s.mo.M.del (.int .i64 t)⟩ }
theorem Ylv (hh:Yao s q) (t:Int):Yao (Ybv s t) q:=fun u y hy=>by
 by_cases hu:u=t
 ·subst hu;simp [Ybv] at hy
 ·simp [Ybv,hu] at hy;exact hh u y hy
theorem Ylw (h:Yan w s) (g:Yar s) (t:Int) (ht:Yax t) (ty:TypeId):
 ∃ w',(Builtin.delete_ #[227,3] ty #[.map (some s.mo.b),.int .i64 t]).run prog w=.ok (.tuple #[]) w'∧Yab w w' s (Ybv s t):=by
 have hm:Yap w 3 s.mo.b s.mo.n s.mo.M:=h.comp .mo
 obtain ⟨w',hr,hm',htu⟩:=World.ownsMap.drop hm (Maps.int_keyed underlying3) underlying227 (Yf5 t ht) ty
 obtain ⟨k1,k2,k3⟩:=Ygq htu
 have hB:∀ tag k,(Ybv s t).blk tag=some k→s.blk tag=some k:=fun tag k hk=>by
  cases tag using Tag.elim with
  | tx u=>
   by_cases hu:u=t
   ·simp [Ybv,hu] at hk
   ·simp [Ybv,hu] at hk;simp;exact hk
  | held u=>
   by_cases hu:u=t
   ·simp [Ybv,hu] at hk
   ·simp [Ybv,hu] at hk;simp;exact hk
  | _=>exact hk
 refine ⟨w',hr,h.step (fun tag=>tag=.mo∨tag=.tx t∨tag=.held t) ?_ ?_ ?_ ?_ ?_ (by omega),?_,fun tag k hk=>.inl (hB tag k hk),fun k _ hnt=>k1 k (fun e=>hnt .mo (by rw [e];rfl)),k3⟩
 ·intro tag htg
  simp only [not_or] at htg;obtain ⟨t1,t2,t3⟩:=htg
  cases tag using Tag.elim with
  | mo=>exact absurd rfl t1
  | tx u=>have hu:u≠t:=fun e=>t2 (by rw [e]);exact ⟨by simp [Ybv,hu],fun W hW y hy=>by simp [Ybv,hu] at hy;exact hW y hy⟩
  | held u=>have hu:u≠t:=fun e=>t3 (by rw [e]);exact ⟨by simp [Ybv,hu],fun W hW y hy=>by simp [Ybv,hu] at hy;exact hW y hy⟩
  | _=>exact ⟨rfl,fun W hW=>hW⟩
 ·intro tag k htg hk
  simp only [not_or] at htg;exact k1 k (fun e=>htg.1 (h.apart tag .mo k hk (by rw [e];rfl)))
 ·rintro tag (rfl | rfl | rfl)
  ·exact hm'
  ·intro y hy;simp [Ybv] at hy
  ·intro y hy;simp [Ybv] at hy
 ·intro tag k _ hk
  exact .inl (hB tag k hk)
 ·intro a b k _ _ h1 h2
  exact h.apart a b k (hB a k h1) (hB b k h2)
 ·exact {
   dsz:=g.dsz,dv:=g.dv,fuse:=g.fuse,ok:=g.ok,wn:=g.wn,ln:=g.ln,db:=g.db,wb:=g.wb,have':=g.have',lack:=g.lack,room:=g.room,load:=g.load,chk:=g.chk,logd:=g.logd,wl:=g.wl,rise:=g.rise,st:=g.st,ct:=g.ct,ac:=g.ac,mon:=g.mon,mcn:=g.mcn
   isOpen:=fun u y hy=>by
    by_cases hu:u=t
    ·subst hu;simp [Ybv] at hy
    ·simp [Ybv,hu] at hy
     exact fun zd=>(Maps.atKey_del_other (by simpa using hu) zd).trans (g.isOpen u y hy zd)
   notOpen:=fun u hy=>by
    by_cases hu:u=t
    ·subst hu;exact fun zd=>Maps.atKey_del_same zd
    ·simp [Ybv,hu] at hy
     exact fun zd=>(Maps.atKey_del_other (by simpa using hu) zd).trans (g.notOpen u hy zd) }
def Ykj (s s':Sv) (t:Int) (x:TxE):Prop:=(x.last=0∧s'=Ybv s t)∨(0<x.last∧∃ v',s'=Ybv (synced (Ybr s t x ⟨3,0,0,0,ByteArray.empty,false,ByteArray.empty,false,ByteArray.empty⟩ v')) t)
theorem Yyp (h:Yan w s) (g:Yar s) (hh:Yao s q) (hlen:s.len≤390) (t:Int) (ht:0≤t∧t<256) (x:TxE) (hx:s.tx t=some x) (hlast:x.last≤s.len):
 Calls prog 300 #[.pointer (some ⟨s.kb,0,none⟩),.int .i64 t] w fun e w'=>e=.returned (.tuple #[])∧∃ s',Ykj s s' t x∧Yab w w' s s'∧Yao s' q:=by
 have hti:Yax t:=⟨by omega,by omega⟩
 have hl:=Ykd hti (h.comp .mo) (g.isOpen t x hx)
 have c5:w.cell? ⟨s.kb,5,none⟩=some (.map (some s.mo.b)):=Yaa (h.comp .kind) (Yb1 s (by omega) rfl)
 have ctx:w.cell? ⟨x.tb,0,none⟩=some (.int .i64 (x.last:Int)):=Yaa (j:=0) (h.comp (.tx t) x hx) rfl
 by_cases h0:x.last=0
 ·obtain ⟨w',hdel,hgo⟩:=Ylw h g t hti 0
  rw [h0] at ctx;have HF:Hid (∃ s',Ykj s s' t x∧Yab w w' s s'∧Yao s' q):=⟨_,.inl ⟨h0,rfl⟩,hgo,Ylv hh t⟩;clear h g hh hgo;go_enter func300,ntmps300;go_wp2;go_end0;exact ⟨rfl,HF.out⟩
 ·have hpos:(0:Int)<(x.last:Int):=by omega
  have KE:=Yki h g hh hlen t ht x hx ⟨3,0,0,0,ByteArray.empty,false,ByteArray.empty,false,ByteArray.empty⟩ ⟨by simp,by simpa using ht,by simp only;omega,by simp,by simp,by simp,by simp⟩ (fun _=>rfl) (fun _=>rfl);have KF:Hid (∀ v' W,Yab w W s (Ybr s t x ⟨3,0,0,0,ByteArray.empty,false,ByteArray.empty,false,ByteArray.empty⟩ v')→Calls prog 287 #[.pointer (some ⟨s.kb,0,none⟩)] W fun e w'=>e=.returned (.tuple #[])∧Yab w w' s (synced (Ybr s t x ⟨3,0,0,0,ByteArray.empty,false,ByteArray.empty,false,ByteArray.empty⟩ v'))):=fun v' W hW=>
   (Yn0 hW.lies hW.good (by show s.ws ++ [_]≠[];simp)).mono fun e w' ⟨h1,h2⟩=>⟨h1,hW.trans h2⟩
  have KD:Hid (∀ v' W,Yab w W s (synced (Ybr s t x ⟨3,0,0,0,ByteArray.empty,false,ByteArray.empty,false,ByteArray.empty⟩ v'))→Yao (Ybr s t x ⟨3,0,0,0,ByteArray.empty,false,ByteArray.empty,false,ByteArray.empty⟩ v') q→W.cell? ⟨s.kb,5,none⟩=some (.map (some s.mo.b))∧∃ w',(Builtin.delete_ #[227,3] 0 #[.map (some s.mo.b),.int .i64 t]).run prog W=.ok (.tuple #[]) w'∧∃ s',Ykj s s' t x∧Yab w w' s s'∧Yao s' q):=fun v' W hW hh'=>by
   refine ⟨Yaa (hW.lies.comp .kind) (Yb1 _ (j:=5) (by omega) rfl),?_⟩;obtain ⟨w',hdel,hgo⟩:=Ylw hW.lies hW.good t hti 0;exact ⟨w',hdel,_,.inr ⟨by omega,v',rfl⟩,hW.trans hgo,Ylv (s:=synced (Ybr s t x ⟨3,0,0,0,ByteArray.empty,false,ByteArray.empty,false,ByteArray.empty⟩ v')) (fun u y hy=>hh' u y hy) t⟩
  have HKE:=Yh KE;simp only [Yac.cells] at HKE;generalize Ykj s=CM at KD ⊢;clear h g hh KE;go_enter func300,ntmps300;go_wp2_with (first
   | (go_at_call 288;go_must (
    refine HKE.out.mono ?_;rintro e w1 ⟨rfl,v',hg1,hh1⟩;have HG1:=Yh hg1;have HH1:=Yh hh1;clear hg1 hh1))
   | (go_at_call 287;go_must (
    refine (KF.out v' w1 HG1.out).mono ?_;rintro e w2 ⟨rfl,hg2⟩;obtain ⟨d5,w3,hdel,hfin⟩:=KD.out v' w2 hg2 HH1.out;have HF:=Yh hfin;clear hg2 hfin)))
  go_end0;exact ⟨rfl,HF.out⟩
def Yn1:DataW Value→Option (Bool×ByteArray)
 | .held (.agg a)=>match a.toList with
  | [.bool is,.string v]=>some (is,v)
  | _=>none
 | _=>none
def Yc4 (M:DataW Value) (key:ByteArray):Option (Bool×ByteArray):=Yn1 (M.atKey (lit key) (.map []))
def Yd0 (M:DataW Value):Prop:=∀ key:ByteArray,(∀ zd,M.atKey (lit key) zd=zd)∨∃ is val,key.size≤8∧val.size≤12∧∀ zd,M.atKey (lit key) zd=.held (.agg #[.bool is,.string val])
structure Ya7 (s:Sv) (md:Ybh):Prop where
 made:s.made=some md
 have':∀ t m,s.mt t=some m→∀ zd,md.M.atKey (.int .i64 t) zd=.held (.map (some m.b))
 lack:∀ t,s.mt t=none→∀ zd,md.M.atKey (.int .i64 t) zd=zd
 cells:∀ t m,s.mt t=some m→Yd0 m.M∧m.n≤s.acts
 num:md.n≤s.acts
def Sv.own (s:Sv) (t:Int) (key:ByteArray):Option (Bool×ByteArray):=(s.mt t).bind (fun m=>Yc4 m.M key)
theorem Yi9 (h:Yan w s) (hm:Ya7 s md):w.cell? ⟨s.kb,8,none⟩=some (.map (some md.b)):=by
 refine Yaa (h.comp .kind) ?_;unfold Sv.cells;rw [hm.made];rfl
theorem Yyq (h:Yan w s) (hm:Ya7 s md) (t:Int) (ht:Yax t) (key:ByteArray) (hks:key.size≤8):
 ∃ mv,(Instr.lookup 231 (.map (some md.b)) (.int .i64 t) false).run prog w=.ok mv w∧(Instr.lookup 138 mv (.string key) true).run prog w=.ok (.tuple #[.agg #[.bool ((s.own t key).getD (false,ByteArray.empty)).1,.string ((s.own t key).getD (false,ByteArray.empty)).2],.bool (s.own t key).isSome]) w:=by
 have hmd:Yap w 3 md.b md.n md.M:=h.comp .made md hm.made
 obtain ⟨mv,hr,hv⟩:=hmd.look (Maps.int_keyed underlying3) underlying231 (z:=.map none) (Tryz.zeroValue138 _) (Yf5 t ht)
 refine ⟨mv,hr,?_⟩
 cases hmt:s.mt t with
 | none=>
  rw [hm.lack t hmt] at hv;simp only [DataW.held.injEq] at hv;subst hv;have:=Maps.look_nil (w:=w) true (Maps.string_keyed underlying9) underlying138 (z:=.agg #[.bool false,.string ByteArray.empty]) (Tryz.zeroValue38 _) (Yfk key (by omega));simpa [Sv.own,hmt] using this
 | some m=>
  rw [hm.have' t m hmt] at hv;simp only [DataW.held.injEq] at hv;subst hv;have hmm:Yap w 9 m.b m.n m.M:=h.comp (.madeOf t) m hmt;obtain ⟨v,ps,hr2,hv2⟩:=World.ownsMap.look_ok hmm (Maps.string_keyed underlying9) underlying138 (z:=.agg #[.bool false,.string ByteArray.empty]) (Tryz.zeroValue38 _) (zd:=.held (.agg #[.bool false,.string ByteArray.empty])) (zp:=[]) rfl (Yfk key (by omega));simp only [Yb0,Option.some.injEq,Prod.mk.injEq] at hv2;rw [hr2];rcases (hm.cells t m hmt).1 key with h1 | ⟨is,val,_,_,h1⟩
  ·have e1:=hv2.1.trans (h1 _)
   simp only [DataW.held.injEq] at e1;subst e1;rw [Maps.has_false_of_atKey h1];have:s.own t key=none:=by simp only [Sv.own,hmt,Option.bind_some,Yc4];rw [h1];rfl
   rw [this];rfl
  ·have e1:=hv2.1.trans (h1 _)
   simp only [DataW.held.injEq] at e1;subst e1;rw [Maps.has_true_of_atKey h1];have:s.own t key=some (is,val):=by simp only [Sv.own,hmt,Option.bind_some,Yc4];rw [h1];rfl
   rw [this];rfl
theorem Ya7.granted (h:Ya7 s md) (t:Int) (x:TxE) (key:ByteArray) (lv:Int):Ya7 (granted s t x key lv) md:=⟨h.made,h.have',h.lack,h.cells,h.num⟩
theorem Yyr (h:Yan w s) (g:Yar s) (hh:Yao s q) (hm:Ya7 s md) (hq:q≤1999999999999) (t:Int) (ht:Yax t) (x:TxE) (hx:s.tx t=some x) (key:ByteArray) (hks:key.size≤8):
 Calls prog 281 #[.pointer (some ⟨s.kb,0,none⟩),.int .i64 t,.string key] w fun e w'=>e=.returned (.agg #[.bool ((s.own t key).getD (Yag (s.cont (Yae key)) key)).1,.string ((s.own t key).getD (Yag (s.cont (Yae key)) key)).2])∧∃ s',Yau (granted s t x key 1) s'∧Yab w w' s s'∧Yao s' (q+1):=by
 have KG:Hid (∀ W,Below w.heap.size w W→Calls prog 294 #[.pointer (some ⟨s.kb,0,none⟩),.int .i64 t,.string key,.int .i64 1] W fun e w'=>e=.returned (.tuple #[])∧Yab W w' s (granted s t x key 1)∧Yao (granted s t x key 1) (q+1)):=fun W hW=>Ylr (h.below hW) g hh (by omega) t ht x hx key hks 1 (by omega)
 have KR:Hid (∀ W0 W,Yab W0 W s (granted s t x key 1)→∀ W',Below W.heap.size W W'→Calls prog 289 #[.pointer (some ⟨s.kb,2,none⟩),.string key] W' fun e w'=>e=.returned (.agg #[.bool (Yag (s.cont (Yae key)) key).1,.string (Yag (s.cont (Yae key)) key).2])∧∃ s',Yau (granted s t x key 1) s'∧Yab W w' (granted s t x key 1) s'):=fun W0 W hW W' hW'=>(Yls (hW.lies.below hW') hW.good key hks).mono fun e w' ⟨h1,s',h2,h3⟩=>⟨h1,s',h2,Yab.wrap hW.lies hW' h3 (fun _ _ _=>rfl) (Below.refl _ _)⟩
 have KM:Hid (∀ W0 W,Yab W0 W s (granted s t x key 1)→W.cell? ⟨s.kb,8,none⟩=some (.map (some md.b))∧s.kb<W.heap.size∧∃ mv,(Instr.lookup 231 (.map (some md.b)) (.int .i64 t) false).run prog W=.ok mv W∧(Instr.lookup 138 mv (.string key) true).run prog W=.ok (.tuple #[.agg #[.bool ((s.own t key).getD (false,ByteArray.empty)).1,.string ((s.own t key).getD (false,ByteArray.empty)).2],.bool (s.own t key).isSome]) W):=fun W0 W hW=>by
  have a1:=Yi9 hW.lies (hm.granted t x key 1);have a2:=Yyq hW.lies (hm.granted t x key 1) t ht key hks;exact ⟨a1,hW.lies.lt .kind _ rfl,a2⟩
 have HL:=Yh h
 have HB0:Hid (∀ o,Below w.heap.size w (w.alloc o)):=fun o=>(Below.refl _ w).alloc (Nat.le_refl _) _
 generalize hs1:granted s t x key 1=s1 at KG KR KM ⊢
 generalize hkb:s.kb=kb at KG KR KM ⊢
 generalize s.own t key=ow at KM ⊢
 generalize Yag (s.cont (Yae key)) key=u at KR ⊢
 obtain ⟨ui,us⟩:=u
 clear h g hh hx hs1 hm
 cases ow with
 | none=>
  simp only [Option.getD_none,Option.isSome_none] at KM KR ⊢;go_enter func281,ntmps281;go_wp2_with (first
   | (go_at_call 294;go_must (
    refine (KG.out _ (HB0.out _)).mono ?_;rintro e w1 ⟨rfl,hg1,hh1⟩;have HG1:=Yh hg1;have HH1:=Yh hh1;obtain ⟨c8,hkw,mv,l1,l2⟩:=KM.out _ w1 hg1;clear hg1 hh1))
   | (go_at_call 289;go_must (
    refine (KR.out _ w1 HG1.out _ ((Below.refl _ w1).alloc (Nat.le_refl _) _)).mono ?_;rintro e w2 ⟨rfl,s2,hp2,hg2⟩;have HP2:=Yh hp2;have HG2:=Yh (HG1.out.trans hg2);have q2:=(HG2.out.own HL.out (q:=w.heap.size) (Nat.le_refl _) (by simp)).1.trans (heap_alloc_new w _);have x0:=Yaa (j:=0) q2 rfl;have x1:=Yaa (j:=1) q2 rfl;have y0:=Yah 0 q2;have y1:=Yah 1 q2;have HQQ:=Yh q2;clear hp2 hg2 q2)))
  have k3:=Yak _ w.heap.size 1 (.string us) _ 38 (Yak w2 w.heap.size 0 (.bool ui) _ 38 HQQ.out);refine bodyPost_ret (v:=.agg #[.bool ui,.string us]) (results_cell_row Tryz.results281 _ _ w.heap.size 38 #[.bool ui,.string us] (0,0) _ rfl k3 underlying38 rfl (by kernel_rfl)) rfl ⟨rfl,s2,HP2.out,?_,HP2.out.held HH1.out⟩;refine Yab.wrap HL.out (HB0.out _) HG2.out (fun k _ hk=>?_) ?_
  ·have hk':k≠w.heap.size:=by simp at hk;omega
   rw [Below.heap_setCell _ _ _ _ hk',Below.heap_setCell _ _ _ _ hk']
  ·exact ((Below.refl _ _).setCell (p:=⟨w.heap.size,0,none⟩) (by simp) _).setCell (p:=⟨w.heap.size,1,none⟩) (by simp) _
 | some c=>
  obtain ⟨ci,cs⟩:=c;simp only [Option.getD_some,Option.isSome_some] at KM ⊢;go_enter func281,ntmps281;go_wp2_with (first
   | (go_at_call 294;go_must (
    refine (KG.out _ (HB0.out _)).mono ?_;rintro e w1 ⟨rfl,hg1,hh1⟩;have HG1:=Yh hg1;have HH1:=Yh hh1;obtain ⟨c8,hkw,mv,l1,l2⟩:=KM.out _ w1 hg1;have q2:=(hg1.own HL.out (q:=w.heap.size) (Nat.le_refl _) (by simp)).1.trans (heap_alloc_new w _);have hzw:w.heap.size<w1.heap.size:=Yaj q2;have x0:=Yaa (j:=0) q2 rfl;have x1:=Yaa (j:=1) q2 rfl;have y0:=Yah 0 q2;have y1:=Yah 1 q2;have HQQ:=Yh q2;clear hg1 hh1 q2)))
  have k3:=Yak _ w.heap.size 1 (.string cs) _ 38 (Yak w1 w.heap.size 0 (.bool ci) _ 38 HQQ.out);have k4:=(Below.heap_alloc ((w1.setCell ⟨w.heap.size,0,none⟩ (.bool ci)).setCell ⟨w.heap.size,1,none⟩ (.string cs)) (.cells #[.bool ci,.string cs] 38) w.heap.size (by simpa using hzw)).trans k3;refine bodyPost_ret (v:=.agg #[.bool ci,.string cs]) (results_cell_row Tryz.results281 _ _ w.heap.size 38 #[.bool ci,.string cs] (0,0) _ rfl k4 underlying38 rfl (by kernel_rfl)) rfl ⟨rfl,s1,Yau.refl _,?_,HH1.out⟩;refine Yab.wrap HL.out (HB0.out _) HG1.out (fun k hk1 hk=>?_) ?_
  ·have hk':k≠w.heap.size:=by simp at hk;omega
   rw [Below.heap_alloc _ _ _ (by simpa using hk1),Below.heap_setCell _ _ _ _ hk',Below.heap_setCell _ _ _ _ hk']
  ·exact (((Below.refl _ _).setCell (p:=⟨w.heap.size,0,none⟩) (by simp) _).setCell (p:=⟨w.heap.size,1,none⟩) (by simp) _).alloc (by simp) _
theorem Yd0.put (h:Yd0 M) (hm:Maps.IsMap M) (key:ByteArray) (hk:key.size≤8) (is:Bool) (val:ByteArray) (hv:val.size≤12):Yd0 (M.put (lit key) (.held (.agg #[.bool is,.string val]))):=fun s=>by
 by_cases hs:s=key
 ·subst hs
  exact .inr ⟨is,val,hk,hv,fun zd=>Maps.atKey_put_same hm (by simp [WideAt.IsKeyLit]) _ _⟩
 ·have hne:lit s≠lit key:=fun e=>hs (Yhg e)
  rcases h s with h3 | ⟨a,b,h3,h4,h5⟩
  ·exact .inl fun zd=>(Maps.atKey_put_other hne _ _).trans (h3 zd)
  ·exact .inr ⟨a,b,h3,h4,fun zd=>(Maps.atKey_put_other hne _ _).trans (h5 zd)⟩
theorem Yd0.empty:Yd0 (.map []):=fun key=>.inl fun zd=>Maps.atKey_of_not_has (by simp [Maps.has_eq]) zd
def newTab (s:Sv) (md:Ybh) (t:Int) (nb:Nat):Sv:={ s with made:=some ⟨md.b,md.n+1,md.M.put (.int .i64 t) (.held (.map (some nb)))⟩,mt:=fun u=>if u=t then some ⟨nb,0,.map []⟩ else s.mt u }
theorem Yys (hm:s.made=some md) (t:Int) (nb:Nat):(newTab s md t nb).cells=s.cells:=by
 unfold Sv.cells;rw [hm];rfl
def putTab (s:Sv) (t:Int) (m:Ybh) (key:ByteArray) (is:Bool) (val:ByteArray):Sv:={ s with mt:=fun u=>if u=t then some ⟨m.b,m.n+1,m.M.put (lit key) (.held (.agg #[.bool is,.string val]))⟩ else s.mt u }
theorem Yar.newTab (g:Yar s) (md:Ybh) (t:Int) (nb:Nat):Yar (newTab s md t nb):=
 { dsz:=g.dsz,dv:=g.dv,fuse:=g.fuse,ok:=g.ok,wn:=g.wn,ln:=g.ln,db:=g.db,wb:=g.wb,have':=g.have',lack:=g.lack,room:=g.room,load:=g.load,chk:=g.chk,logd:=g.logd,wl:=g.wl,rise:=g.rise,st:=g.st,ct:=g.ct,ac:=g.ac,mon:=g.mon,mcn:=g.mcn,isOpen:=g.isOpen,notOpen:=g.notOpen }
theorem Yar.putTab (g:Yar s) (t:Int) (m:Ybh) (key:ByteArray) (is:Bool) (val:ByteArray):Yar (putTab s t m key is val):=
 { dsz:=g.dsz,dv:=g.dv,fuse:=g.fuse,ok:=g.ok,wn:=g.wn,ln:=g.ln,db:=g.db,wb:=g.wb,have':=g.have',lack:=g.lack,room:=g.room,load:=g.load,chk:=g.chk,logd:=g.logd,wl:=g.wl,rise:=g.rise,st:=g.st,ct:=g.ct,ac:=g.ac,mon:=g.mon,mcn:=g.mcn,isOpen:=g.isOpen,notOpen:=g.notOpen }
theorem Yyt (h:Yan W s) (g:Yar s) (hm:Ya7 s md) (t:Int) (ht:Yax t) (hmt:s.mt t=none) (hn:md.n<s.acts):
 ∃ w',(Instr.mapUpdate 231 (.map (some md.b)) (.int .i64 t) (.map (some W.heap.size))).run prog (W.alloc (.map #[] 0))=.ok () w'∧Yab W w' s (newTab s md t W.heap.size)∧Ya7 (newTab s md t W.heap.size) ⟨md.b,md.n+1,md.M.put (.int .i64 t) (.held (.map (some W.heap.size)))⟩:=by
 have hac:=g.ac
 have hmd:Yap W 3 md.b md.n md.M:=h.comp .made md hm.made
 have hbm:s.blk .made=some md.b:=by simp [hm.made]
 have hB0:Below W.heap.size W (W.alloc (.map #[] 0)):=(Below.refl _ W).alloc (Nat.le_refl _) _
 obtain ⟨w',hr,hm',htu⟩:=World.ownsMap.store (val:=.map (some W.heap.size)) (hmd.below hB0) (Maps.int_keyed underlying3) underlying231 (by unfold maxLen;omega) (Yf5 t ht) rfl
 obtain ⟨k1,k2,k3⟩:=Ygq htu
 have hz:w'.heap.size=W.heap.size+1:=by rw [k2];simp
 have ho:∀ q,q<W.heap.size→q≠md.b→w'.heap[q]? = W.heap[q]?:=fun q h1 h2=>(k1 q h2).trans (hB0.block q h1)
 have hmb:=h.lt .made _ hbm
 have hnew:Yap w' 9 W.heap.size 0 (.map []):=Yap.kept (World.ownsMap_made W prog 9 Yb0) (k1 _ (by omega))
 have hB:∀ tag,tag≠.madeOf t→(newTab s md t W.heap.size).blk tag=s.blk tag:=fun tag htg=>by
  cases tag using Tag.elim with
  | made=>rw [hbm];rfl
  | madeOf u=>have hu:u≠t:=fun e=>htg (by rw [e]);simp [newTab,hu]
  | _=>rfl
 have hBt:(newTab s md t W.heap.size).blk (.madeOf t)=some W.heap.size:=by simp [newTab]
 refine ⟨w',hr,⟨h.step (fun tag=>tag=.made∨tag=.madeOf t) ?_ ?_ ?_ ?_ ?_ (by omega),g.newTab md t _,fun tag k hk=>?_,fun k hk hnt=>ho k hk (fun e=>hnt .made (by rw [hbm,e])),(hB0.mono (Nat.zero_le _)).trans k3⟩,?_⟩
 ·intro tag htg
  simp only [not_or] at htg;refine ⟨hB tag htg.2,fun W' hW=>?_⟩
  cases tag using Tag.elim with
  | made=>exact absurd rfl htg.1
  | madeOf u=>have hu:u≠t:=fun e=>htg.2 (by rw [e]);intro y hy;simp [newTab,hu] at hy;exact hW y hy
  | kind=>
   show W'.heap[s.kb]? = some (.cells (newTab s md t W.heap.size).cells s.ty (0,0));rw [Yys hm.made];exact hW
  | _=>exact hW
 ·intro tag k htg hk
  simp only [not_or] at htg;exact ho k (h.lt tag k hk) (fun e=>htg.1 (h.apart tag .made k hk (by rw [hbm,e])))
 ·rintro tag (rfl | rfl)
  ·intro y hy
   simp [newTab] at hy;subst hy;exact hm'
  ·intro y hy
   simp [newTab] at hy;subst hy;exact hnew
 ·rintro tag k (rfl | rfl) hk
  ·exact .inl ((hB .made (by simp))▸hk)
  ·rw [hBt] at hk;simp at hk;exact .inr (by omega)
 ·rintro a b k (rfl | rfl) (rfl | rfl) h1 h2
  ·rfl
  ·rw [hB .made (by simp),hbm] at h1;rw [hBt] at h2;simp at h1 h2;omega
  ·rw [hB .made (by simp),hbm] at h2;rw [hBt] at h1;simp at h1 h2;omega
  ·rfl
 ·by_cases htg:tag=.madeOf t
  ·subst htg;rw [hBt] at hk;simp at hk;exact .inr (by omega)
  ·rw [hB tag htg] at hk;exact .inl hk
 ·refine ⟨rfl,fun u m hu zd=>?_,fun u hu zd=>?_,fun u m hu=>?_,hn⟩
  ·by_cases hut:u=t
   ·subst hut
    simp [newTab] at hu;subst hu;exact Maps.atKey_put_same (World.ownsMap.isMap hmd) (by simp [WideAt.IsKeyLit]) _ _
   ·simp [newTab,hut] at hu
    exact (Maps.atKey_put_other (by simpa using hut) _ _).trans (hm.have' u m hu zd)
  ·by_cases hut:u=t
   ·subst hut;simp [newTab] at hu
   ·simp [newTab,hut] at hu
    exact (Maps.atKey_put_other (by simpa using hut) _ _).trans (hm.lack u hu zd)
  ·by_cases hut:u=t
   ·subst hut
    simp [newTab] at hu;subst hu;exact ⟨Yd0.empty,Nat.zero_le _⟩
   ·simp [newTab,hut] at hu
    exact hm.cells u m hu
theorem Yyu {m:Ybh} (h:Yan W s) (g:Yar s) (hm:Ya7 s md) (t:Int) (hmt:s.mt t=some m) (hn:m.n<s.acts) (key:ByteArray) (hks:key.size≤8) (is:Bool) (val:ByteArray) (hvs:val.size≤12):
 ∃ w',(Instr.mapUpdate 138 (.map (some m.b)) (.string key) (.agg #[.bool is,.string val])).run prog W=.ok () w'∧Yab W w' s (putTab s t m key is val)∧Ya7 (putTab s t m key is val) md:=by
 have hac:=g.ac
 have hmm:Yap W 9 m.b m.n m.M:=h.comp (.madeOf t) m hmt
 have hbm:s.blk (.madeOf t)=some m.b:=by simp [hmt]
 obtain ⟨w',hr,hm',htu⟩:=World.ownsMap.store (val:=.agg #[.bool is,.string val]) hmm (Maps.string_keyed underlying9) underlying138 (by unfold maxLen;omega) (Yfk key (by omega)) rfl
 obtain ⟨k1,k2,k3⟩:=Ygq htu
 have hB:∀ tag,(putTab s t m key is val).blk tag=s.blk tag:=fun tag=>by
  cases tag using Tag.elim with
  | madeOf u=>
   by_cases hu:u=t
   ·subst hu;simp [putTab,hmt]
   ·simp [putTab,hu]
  | _=>rfl
 refine ⟨w',hr,⟨h.step (fun tag=>tag=.madeOf t) ?_ ?_ ?_ ?_ ?_ (by omega),g.putTab t m key is val,fun tag k hk=>.inl (hB tag▸hk),fun k hk hnt=>k1 k (fun e=>hnt (.madeOf t) (by rw [hbm,e])),k3⟩,?_⟩
 ·intro tag htg
  refine ⟨hB tag,fun W' hW=>?_⟩
  cases tag using Tag.elim with
  | madeOf u=>have hu:u≠t:=fun e=>htg (by rw [e]);intro y hy;simp [putTab,hu] at hy;exact hW y hy
  | _=>exact hW
 ·intro tag k htg hk
  exact k1 k (fun e=>htg (h.apart tag (.madeOf t) k hk (by rw [hbm,e])))
 ·rintro tag rfl y hy
  simp [putTab] at hy;subst hy;exact hm'
 ·intro tag k _ hk
  exact .inl (hB tag▸hk)
 ·intro a b k ha hb _ _
  rw [ha,hb]
 ·refine ⟨hm.made,fun u y hu zd=>?_,fun u hu zd=>?_,fun u y hu=>?_,hm.num⟩
  ·by_cases hut:u=t
   ·subst hut
    simp [putTab] at hu;subst hu;exact hm.have' u m hmt zd
   ·simp [putTab,hut] at hu
    exact hm.have' u y hu zd
  ·by_cases hut:u=t
   ·subst hut;simp [putTab] at hu
   ·simp [putTab,hut] at hu
    exact hm.lack u hu zd
  ·by_cases hut:u=t
   ·subst hut
    simp [putTab] at hu;subst hu;exact ⟨(hm.cells u m hmt).1.put (World.ownsMap.isMap hmm) key hks is val hvs,hn⟩
   ·simp [putTab,hut] at hu
    exact hm.cells u y hu
end Go.Proofs.YtihbngfbcnojcaaGreat
