import Derived.Test.YtihbngfbcnojcaaGreatActC16
set_option maxRecDepth 100000
set_option maxHeartbeats 8000000
namespace Go.Proofs.YtihbngfbcnojcaaGreat
open Go.RowKit Tryz
variable {k:Bool} {key:ByteArray} {t u:Int} {log:List Yac} {a b c q:Nat} {X:Nat→Prop} {P:Sp} {s s':Sv} {p p':TxP} {w:World} {ps:Yaf}
def Sp.abort (k:Bool) (P:Sp) (t:Int) (p:TxP):Sp:={ P with tx:=fun u=>if u=t then none else P.tx u,nopen:=P.nopen - 1,log:=P.log ++ (if k then Yfd t p.last P.log.length p.ups else []) }
theorem Ye0 (hp':(P.abort k t p).tx u=some p'):u≠t∧P.tx u=some p':=by
 simp only [Sp.abort] at hp';split at hp'
 ·cases hp'
 ·rename_i he
  exact ⟨he,hp'⟩
theorem Y2k (t:Int) (last len:Nat) (es:List Yac):(Yfd t last len es).length≤es.length+1:=by
 unfold Yfd;split
 ·simp
 ·simp [Ygy]
theorem Y2l (h:Wf k P) (hp:P.tx t=some p):Wf k (P.abort k t p):=by
 refine ⟨fun u hu=>?_,fun u p' hp'=>h.pos u p' (Ye0 hp').2,fun u1 u2 p1 p2 k' hp1 hp2 h1 h2=>h.one u1 u2 p1 p2 k' (Ye0 hp1).2 (Ye0 hp2).2 h1 h2,⟨h.nrm.1,fun u p' k' c' hp' hc'=>h.nrm.2 u p' k' c' (Ye0 hp').2 hc'⟩,fun u p' k' hp'=>h.rd u p' k' (Ye0 hp').2,fun u p' hp'=>?_,fun hk u p' hp'=>?_,fun hk u p' hp'=>h.bare hk u p' (Ye0 hp').2,?_,h.acts,h.nx,⟨h.ksz.1,fun u p' k' hp' hw=>h.ksz.2 u p' k' (Ye0 hp').2 hw⟩⟩
 ·have hu':(P.next:Int)<u:=hu
  simp only [Sp.abort];split
  ·rfl
  ·exact h.fut u hu'
 ·have:=h.last u p' (Ye0 hp').2
  show p'.last≤(P.log ++ _).length;rw [List.length_append];omega
 ·obtain ⟨h0,h1⟩:=h.ups hk u p' (Ye0 hp').2
  exact ⟨h0.more _,h1⟩
 ·have h1:=h.cost
  obtain ⟨t1,t2,_⟩:=h.tle hp;have h2:=Yji P.tx t none P.next t1 t2;rw [hp] at h2;have h3:Ydk none=0:=rfl;have h4:Ydk (some p)=p.n+1:=rfl;rw [h3,h4] at h2;have h5:(if k then Yfd t p.last P.log.length p.ups else []).length≤p.n+1:=by
   cases k with
   | true=>
    have:=Y2k t p.last P.log.length p.ups;have:=(h.ups rfl t p hp).2.1;rw [if_pos rfl];omega
   | false=>simp
  show (P.log ++ _).length+Ydu (fun u=>if u=t then none else P.tx u) P.next≤2*P.acts;rw [List.length_append];omega
theorem Ytz (L:Yan w s) (g:Yar s) (h:Rel k s P) (hp:P.tx t=some p) (htx:s'.tx=fun u=>if u=t then none else s.tx u) (hnum:s'.begun=s.begun∧s'.acts=s.acts) (hlog:s'.ents=(P.abort k t p).log) (hmo:s'.mo.M=s.mo.M.del (.int .i64 t)) (hbk:Ygd s')
 (hst:k=true→(∀ u p' k' c',u≠t→P.tx u=some p'→p'.wrote k'=some c'→Yag (s'.cont (Yae k')) k'=c')∧∀ key,(∀ u p',u≠t→P.tx u=some p'→p'.wrote key=none)→Yag (s'.cont (Yae key)) key=P.comm key)
 (hbs:k=false→(∃ md,Ya7 s' md)∧(s'.mt=fun u=>if u=t then none else s.mt u)∧s'.cont=s.cont):Rel k s' (P.abort k t p):=by
 obtain ⟨x,hx,_,_⟩:=h.tx1 t p hp
 refine ⟨Y2l h.wf hp,fun u hu=>?_,fun u p' hp'=>?_,⟨by rw [hnum.1];exact h.nums.1,by rw [hnum.2];exact h.nums.2.1,hlog⟩,?_,hbk,fun hk=>?_,fun hk=>?_⟩
 ·rw [htx]
  show (if u=t then none else s.tx u)=none;by_cases hut:u=t
  ·rw [if_pos hut]
  ·rw [if_neg hut]
   simp only [Sp.abort] at hu;rw [if_neg hut] at hu;exact h.tx0 u hu
 ·obtain ⟨hu,hp''⟩:=Ye0 hp'
  obtain ⟨y,h1,h2,h3⟩:=h.tx1 u p' hp'';exact ⟨y,by rw [htx];show (if u=t then none else s.tx u)=_;rw [if_neg hu];exact h1,h2,h3⟩
 ·show Maps.size s'.mo.M=P.nopen - 1
  have h1:=Maps.size_del (k:=.int .i64 t) (Yoj L);rw [Yhl g,hx,h.cnt] at h1;simp only [Option.isSome_some,if_true] at h1;rw [hmo];omega
 ·obtain ⟨h2,h3⟩:=hst hk
  refine ⟨fun u p' k' c' hp' hc'=>h2 u p' k' c' (Ye0 hp').1 (Ye0 hp').2 hc',fun key hno=>h3 key fun u p' hu hp'=>hno u p' (by simp only [Sp.abort];rw [if_neg hu];exact hp')⟩
 ·obtain ⟨h1,h2,h3⟩:=hbs hk
  obtain ⟨_,b2,b3,b4⟩:=h.beside hk;refine ⟨h1,fun u hu=>?_,fun u p' hp'=>?_,fun key=>by rw [h3];exact b4 key⟩
  ·rw [h2]
   show (if u=t then none else s.mt u)=none;by_cases hut:u=t
   ·rw [if_pos hut]
   ·rw [if_neg hut]
    simp only [Sp.abort] at hu;rw [if_neg hut] at hu;exact b2 u hu
  ·obtain ⟨hu,hp''⟩:=Ye0 hp'
   have e1:s'.mt u=s.mt u:=by rw [h2];show (if u=t then none else s.mt u)=_;rw [if_neg hu]
   refine ⟨fun key=>?_,fun m hm=>(b3 u p' hp'').2 m (by rw [←e1];exact hm)⟩;show (s'.mt u).bind _=_;rw [e1];exact (b3 u p' hp'').1 key
theorem Y2m (S:Yb6 w a false P X q) (t:Int) (p:TxP) (hp:P.tx t=some p):
 Calls prog 25 #[.pointer (some ⟨a,0,none⟩),.int .i64 t] w fun e w'=>e=.returned (.int .i64 0)∧Ycv w w' a false (P.abort false t p) X q:=by
 obtain ⟨s,L,R,hX⟩:=S
 obtain ⟨x,hx,hlast,hhold⟩:=R.tx1 t p hp
 obtain ⟨ht1,_,ht⟩:=R.wf.tle hp
 obtain ⟨⟨md,hmd⟩,b2,b3,b4⟩:=R.beside rfl
 have hti:Yax t:=⟨by omega,by omega⟩
 refine (Yz8 L t hti x hx (fun s'=>s'=Ybv (Yb5 s md t) t∧(∃ md',Ya7 s' md')∧Yao s' q) (fun W hW=>(Yy0 hW L.good L.held hmd t hti).mono ?_)).mono ?_
 ·rintro e w' ⟨h1,h2,h3,h4⟩
  exact ⟨h1,_,⟨rfl,⟨_,h4⟩,h3⟩,h2⟩
 ·rintro e w' ⟨h1,s',⟨rfl,h2,h3⟩,h4⟩
  refine ⟨h1,Ydp L hX h4 h3 (Yos L.cap rfl rfl) rfl (Ytz L.lies L.good R hp rfl ⟨rfl,rfl⟩ ?_ rfl R.buck (fun h=>by cases h) (fun _=>⟨h2,rfl,rfl⟩))⟩;show s.ents=P.log ++ (if false=true then _ else []);rw [if_neg (by simp),List.append_nil];exact R.nums.2.2
theorem Y2n (S:Yb6 w a true P X q) (t:Int) (p:TxP) (hp:P.tx t=some p):
 Calls prog 25 #[.pointer (some ⟨a,0,none⟩),.int .i64 t] w fun e w'=>e=.returned (.int .i64 0)∧Ycv w w' a true (P.abort true t p) X q:=by
 obtain ⟨s,L,R,hX⟩:=S
 obtain ⟨x,hx,hlast,hhold⟩:=R.tx1 t p hp
 obtain ⟨ht1,_,ht⟩:=R.wf.tle hp
 have hlen:=R.slen L.good
 have hroom:=R.wf.room hp
 have hpl:=R.wf.last t p hp
 obtain ⟨hwr,hcm⟩:=R.steal rfl
 obtain ⟨hch,hun,hu1,hu2⟩:=R.wf.ups rfl t p hp
 rw [←R.nums.2.2,←hlast] at hch
 have hall:∀ u∈p.ups,Ybc x.H u.key=2:=fun u hu=>by
  rw [hhold];unfold TxP.hold;rw [if_pos (hu1 u hu)]
 have hnorm:∀ u∈p.ups.map Ycw,Ydj u.2=u.2:=fun u hu=>by
  obtain ⟨e,he,rfl⟩:=List.mem_map.1 hu;obtain ⟨d,hd,rfl⟩:=List.mem_map.1 (hch.mem e he);obtain ⟨i,hi,rfl⟩:=List.getElem_of_mem hd;exact Yts (L.good.logd.at' i hi).2.2.2.2.2.2.1
 have hin:∀ u∈p.ups.map Ycw,(p.wrote u.1).isSome=true:=fun u hu=>by
  obtain ⟨e,he,rfl⟩:=List.mem_map.1 hu;exact hu1 e he
 obtain ⟨f1,f2,f3⟩:=Yok (p.ups.map Ycw) s.cont (fun n hn=>(L.good.rise n hn).1) hnorm
 refine (Yz7 L t ⟨by omega,by omega⟩ x hx (fun s'=>Yoo s s' t (Yd5 s.cont (p.ups.map Ycw)) (p.ups.length+1) (Yfd t x.last s.len p.ups)∧Yao s' q) (fun W hW=>(Y10 hW L.good L.held L.cap t ⟨by omega,ht⟩ x hx (by omega) p.ups hch hall (by omega)).mono ?_)).mono ?_
 ·rintro e w' ⟨h1,s',h2,h4,h5⟩
  exact ⟨h1,s',⟨h2,h5⟩,h4⟩
 ·rintro e w' ⟨h1,s',⟨h2,hh⟩,hg⟩
  have hund:∀ key,Yag (s'.cont (Yae key)) key=Yd4 (p.ups.map Ycw) (fun k=>Yag (s.cont (Yae k)) k) key:=fun key=>by rw [h2.cont];exact f3 key
  refine ⟨h1,Ydp L hX hg hh (Yl5 L.cap fun n k hn' hk=>?_) h2.nums.2.2.1 (Ytz L.lies L.good R hp h2.tx ⟨h2.nums.2.1,h2.nums.1⟩ ?_ h2.nums.2.2.2.1 (fun n hn' p' hp'=>?_) (fun _=>⟨fun u p' k' c' hu hp' hc'=>?_,fun key hno=>?_⟩) (fun h=>by cases h))⟩
  ·rcases hk with ⟨p',hp',rfl⟩ | ⟨h5,u,y,hy,h6⟩
   ·rw [h2.cont] at hp'
    rcases f2 n hn' p' hp' with h5 | ⟨⟨u,hu,e5⟩,h5⟩
    ·exact .inl ⟨p',h5,rfl⟩
    ·obtain ⟨d,hd,rfl⟩:=List.mem_map.1 hu
     have e6:d.key=p'.1:=e5;exact .inr ⟨h5,t,x,hx,by rw [←e6];exact hall d hd⟩
   ·rw [h2.tx] at hy
    by_cases hu:u=t
    ·simp only [hu,if_true] at hy;cases hy
    ·simp only [hu,if_false] at hy
     exact .inr ⟨h5,u,y,hy,h6⟩
  ·show s'.ents=P.log ++ (if true=true then _ else [])
   rw [if_pos rfl,h2.log,R.nums.2.2,hlast,hlen]
  ·rw [h2.cont] at hp'
   rcases f2 n hn' p' hp' with h5 | ⟨_,h5⟩
   ·exact R.buck n hn' p' h5
   ·exact h5
  ·rw [hund,Ykm]
   ·exact hwr u p' k' c' hp' hc'
   ·intro v hv e
    have h5:=hin v hv;rw [e] at h5;exact hu (R.wf.one u t p' p k' hp' hp (by rw [hc'];rfl) h5)
  ·rw [hund]
   cases hw:p.wrote key with
   | some c=>
    refine Eq.trans (Yig _ _ (fun k=>(p.wrote k).getD (P.comm k)) _ ?_) (hu2 key);rw [hwr t p key c hp hw,hw];rfl
   | none=>
    rw [Ykm _ _ _ (fun v hv e=>by have h5:=hin v hv;rw [e,hw] at h5;cases h5)];refine hcm key fun u p' hp'=>?_
    by_cases hu:u=t
    ·rw [hu,hp] at hp'
     simp only [Option.some.injEq] at hp';rw [←hp'];exact hw
    ·exact hno u p' hu hp'
theorem Y2o (S:Yb6 w a k P X q) (t:Int) (p:TxP) (hp:P.tx t=some p):
 Calls prog 25 #[.pointer (some ⟨a,0,none⟩),.int .i64 t] w fun e w'=>e=.returned (.int .i64 0)∧Ycv w w' a k (P.abort k t p) X q:=by
 cases k with
 | true=>exact Y2n S t p hp
 | false=>exact Y2m S t p hp
def TxP.look (p:TxP) (key:ByteArray):TxP:={ p with read:=fun k=>if k=key then 1 else p.read k }
def Sp.read (P:Sp) (t:Int) (p:TxP) (key:ByteArray):Sp:={ P with tx:=fun u=>if u=t then some (p.look key) else P.tx u }
theorem You (hp':(P.read t p key).tx u=some p'):(u=t∧p'=p.look key)∨(u≠t∧P.tx u=some p'):=by
 simp only [Sp.read] at hp';split at hp'
 ·rename_i he
  simp only [Option.some.injEq] at hp';exact .inl ⟨he,hp'.symm⟩
 ·rename_i he
  exact .inr ⟨he,hp'⟩
theorem Ygh (hp:P.tx t=some p) {key:ByteArray} {u:Int} {p':TxP} (hp':(P.read t p key).tx u=some p'):∃ p0,P.tx u=some p0∧p'.wrote=p0.wrote∧p'.ups=p0.ups∧p'.last=p0.last∧p'.n=p0.n:=by
 rcases You hp' with ⟨rfl,rfl⟩ | ⟨_,hp''⟩
 ·exact ⟨p,hp,rfl,rfl,rfl,rfl⟩
 ·exact ⟨p',hp'',rfl,rfl,rfl,rfl⟩
theorem Y2p (h:Wf k P) (hp:P.tx t=some p) (key:ByteArray):Wf k (P.read t p key):=by
 refine ⟨fun u hu=>?_,fun u p' hp'=>?_,fun u1 u2 p1 p2 k' hp1 hp2 h1 h2=>?_,⟨h.nrm.1,fun u p' k' c' hp' hc'=>?_⟩,fun u p' k' hp'=>?_,fun u p' hp'=>?_,fun hk u p' hp'=>?_,fun hk u p' hp'=>?_,?_,h.acts,h.nx,⟨h.ksz.1,fun u p' k' hp' hw=>?_⟩⟩
 ·have hu':(P.next:Int)<u:=hu
  simp only [Sp.read];rw [if_neg (fun e=>by have:=h.fut u hu';rw [e,hp] at this;cases this)];exact h.fut u hu'
 ·obtain ⟨p0,hp0,_⟩:=Ygh hp hp'
  exact h.pos u p0 hp0
 ·obtain ⟨q1,a1,a2,_⟩:=Ygh hp hp1
  obtain ⟨q2,b1,b2,_⟩:=Ygh hp hp2;exact h.one u1 u2 q1 q2 k' a1 b1 (by rw [←a2];exact h1) (by rw [←b2];exact h2)
 ·obtain ⟨p0,a1,a2,_⟩:=Ygh hp hp'
  exact h.nrm.2 u p0 k' c' a1 (by rw [←a2];exact hc')
 ·rcases You hp' with ⟨rfl,rfl⟩ | ⟨hu,hp''⟩
  ·unfold TxP.look
   by_cases he:k'=key
   ·simp [he]
   ·simp only [he,if_false];exact h.rd u p k' hp
  ·exact h.rd u p' k' hp''
 ·obtain ⟨p0,a1,_,_,a4,_⟩:=Ygh hp hp'
  rw [a4];exact h.last u p0 a1
 ·obtain ⟨p0,a1,a2,a3,a4,a5⟩:=Ygh hp hp'
  rw [a2,a3,a4,a5];exact h.ups hk u p0 a1
 ·obtain ⟨p0,a1,_,a3,a4,_⟩:=Ygh hp hp'
  rw [a3,a4];exact h.bare hk u p0 a1
 ·have h1:=h.cost
  obtain ⟨t1,t2,_⟩:=h.tle hp;have h2:=Yji P.tx t (some (p.look key)) P.next t1 t2;rw [hp] at h2;have h3:Ydk (some (p.look key))=p.n+1:=rfl;have h4:Ydk (some p)=p.n+1:=rfl;rw [h3,h4] at h2;show P.log.length+Ydu (fun u=>if u=t then some (p.look key) else P.tx u) P.next≤2*P.acts;omega
 ·obtain ⟨p0,a1,a2,_⟩:=Ygh hp hp'
  exact h.ksz.2 u p0 k' a1 (by rw [←a2];exact hw)
theorem Y2q (h:Rel k s P) (hh:Yao s q) (hp:P.tx t=some p) {x:TxE} (hx:s.tx t=some x) (key:ByteArray):Rel k (granted s t x key 1) (P.read t p key):=by
 have back:∀ u p0,P.tx u=some p0→∃ p',(P.read t p key).tx u=some p'∧p'.wrote=p0.wrote:=fun u p0 hp0=>by
  by_cases hu:u=t
  ·refine ⟨p.look key,by simp only [Sp.read];rw [if_pos hu],?_⟩
   rw [hu,hp] at hp0;simp only [Option.some.injEq] at hp0;rw [←hp0];rfl
  ·exact ⟨p0,by simp only [Sp.read];rw [if_neg hu];exact hp0,rfl⟩
 obtain ⟨x0,hx0,hlast,hhold⟩:=h.tx1 t p hp;rw [hx] at hx0;simp only [Option.some.injEq] at hx0;subst hx0;refine ⟨Y2p h.wf hp key,fun u hu=>?_,fun u p' hp'=>?_,h.nums,h.cnt,h.buck,fun hk=>?_,fun hk=>?_⟩
 ·simp only [Sp.read] at hu
  split at hu
  ·cases hu
  ·rename_i hne
   show (if u=t then _ else s.tx u)=none;rw [if_neg hne];exact h.tx0 u hu
 ·rcases You hp' with ⟨rfl,rfl⟩ | ⟨hu,hp''⟩
  ·refine ⟨{ x with nH:=x.nH+1,H:=x.H.put (lit key) (.held (.int .i64 (max (Ybc x.H key) 1))) },by simp [granted],hlast,fun k'=>?_⟩
   show Ybc (x.H.put (lit key) (.held (.int .i64 (max (Ybc x.H key) 1)))) k'=_;rw [Ykh (hh u x hx).2.2];by_cases he:k'=key
   ·rw [if_pos he,hhold key]
    unfold TxP.hold TxP.look;simp only [he,if_true];by_cases hw:(p.wrote key).isSome=true
    ·rw [if_pos hw,if_pos hw];rfl
    ·rw [if_neg hw,if_neg hw]
     rcases h.wf.rd u p key hp with h3 | h3 <;> rw [h3] <;> rfl
   ·rw [if_neg he,hhold k']
    unfold TxP.hold TxP.look;simp only [he,if_false]
  ·obtain ⟨y,h1,h2,h3⟩:=h.tx1 u p' hp''
   exact ⟨y,by show (if u=t then _ else s.tx u)=_;rw [if_neg hu];exact h1,h2,h3⟩
 ·obtain ⟨h2,h3⟩:=h.steal hk
  refine ⟨fun u p' k' c' hp' hc'=>?_,fun k' hno=>?_⟩
  ·obtain ⟨p0,a1,a2,_⟩:=Ygh hp hp'
   exact h2 u p0 k' c' a1 (by rw [←a2];exact hc')
  ·refine h3 k' fun u p0 hp0=>?_
   obtain ⟨p',b1,b2⟩:=back u p0 hp0;rw [←b2];exact hno u p' b1
 ·obtain ⟨⟨md,h1⟩,h2,h3,h4⟩:=h.beside hk
  refine ⟨⟨md,h1.granted t x key 1⟩,fun u hu=>?_,fun u p' hp'=>?_,h4⟩
  ·simp only [Sp.read] at hu
   split at hu
   ·cases hu
   ·exact h2 u hu
  ·obtain ⟨p0,a1,a2,_,_,a5⟩:=Ygh hp hp'
   rw [a2,a5];exact h3 u p0 a1
theorem Y2r (hh:Yao s q) (hc:Cap s) {t:Int} {x:TxE} (hx:s.tx t=some x) (key:ByteArray):Cap (granted s t x key 1):=Yl5 hc fun n k hn hk=>by
 rcases hk with h1 | ⟨h1,u,y,hy,h2⟩
 ·exact .inl h1
 ·have hy':(if u=t then some { x with nH:=x.nH+1,H:=x.H.put (lit key) (.held (.int .i64 (max (Ybc x.H key) 1))) } else s.tx u)=some y:=hy
  by_cases hu:u=t
  ·rw [if_pos hu] at hy'
   simp only [Option.some.injEq] at hy';subst hy';have h3:Ybc (x.H.put (lit key) (.held (.int .i64 (max (Ybc x.H key) 1)))) k=2:=h2;rw [Ykh (hh t x hx).2.2] at h3;refine .inr ⟨h1,t,x,hx,?_⟩;by_cases he:k=key
   ·rw [if_pos he] at h3
    rw [he];have:=(Ylq (hh t x hx).2.1 key).2;omega
   ·rw [if_neg he] at h3;exact h3
  ·rw [if_neg hu] at hy'
   exact .inr ⟨h1,u,y,hy',h2⟩
theorem Y2s (S:Yb6 w a k P X q) (hq:q≤1999999999999) (t:Int) (p:TxP) (hp:P.tx t=some p) (key:ByteArray) (hks:1≤key.size∧key.size≤8) (hfree:¬Yec P t key false):
 Calls prog 23 #[.pointer (some ⟨a,0,none⟩),.int .i64 t,.string key] w fun e w'=>e=.returned (.tuple #[.agg #[.bool (Ycc P p key).1,.string (Ycc P p key).2],.int .i64 0])∧Ycv w w' a k (P.read t p key) X (q+1):=by
 obtain ⟨s,L,R,hX⟩:=S
 obtain ⟨x,hx,hlast,hhold⟩:=R.tx1 t p hp
 obtain ⟨ht1,_,ht⟩:=R.wf.tle hp
 have hti:Yax t:=⟨by omega,by omega⟩
 have hfr0:∀ u p',P.tx u=some p'→u≠t→p'.hold key≠2:=fun u p' hp' hu h2=>hfree ⟨u,p',hp',hu,by simpa using h2⟩
 have hnm:Ya8 (s.tx t).isSome key=0:=by unfold Ya8;rw [hx,if_neg (by simp),if_neg (by omega)]
 have hfr:Yie s t key:=⟨hnm,fun u y hy hu=>by
  obtain ⟨p',hp',h3⟩:=Ykn R hy;rw [h3];exact hfr0 u p' hp' hu⟩
 have hfin:∀ w' s',Yau (granted s t x key 1) s'→Yab w w' s s'→Yao s' (q+1)→Ycv w w' a k (P.read t p key) X (q+1):=fun w' s' h1 h2 h3=>Ydp L hX h2 h3 (h1.cap (Y2r L.held L.cap hx key)) (by rw [h1.same.1];rfl) ((Y2q R L.held hp hx key).paged h1)
 cases k with
 | true=>
  obtain ⟨hwr,hcm⟩:=R.steal rfl;have hv:Yag (s.cont (Yae key)) key=Ycc P p key:=by
   unfold Ycc
   cases hw:p.wrote key with
   | some c=>exact hwr t p key c hp hw
   | none=>
    refine hcm key fun u p' hp'=>?_
    by_cases hu:u=t
    ·rw [hu,hp] at hp'
     simp only [Option.some.injEq] at hp';rw [←hp'];exact hw
    ·have h0:=hfr0 u p' hp' hu
     cases hq0:p'.wrote key with
     | none=>rfl
     | some c=>
      exfalso;apply h0;unfold TxP.hold;rw [hq0];rfl
  rw [←hv];refine (Yzd L.lies L.good L.held hq t hti x hx key hks.2 hfr a L.haw L.hao L.ca).mono ?_;rintro e w' ⟨h1,s',h2,h3,h4⟩;exact ⟨h1,hfin w' s' h2 h3 h4⟩
 | false=>
  obtain ⟨⟨md,hmd⟩,_,b3,b4⟩:=R.beside rfl;unfold Ycc;rw [←(b3 t p hp).1 key,←b4 key];refine (Yze L.lies L.good L.held hmd hq t hti x hx key hks.2 hfr a L.haw L.hao L.ca).mono ?_;rintro e w' ⟨h1,s',h2,h3,h4⟩;exact ⟨h1,hfin w' s' h2 h3 h4⟩
theorem Y2t (S:Yb6 w a k P X q) (t:Int) (ht:Yax t) (key:ByteArray) (hks:key.size≤140737488355328) (r:Int) (hr:(Yc0 P t key≠0∧r=Yc0 P t key)∨(Yc0 P t key=0∧Yec P t key false∧r=8)):
 Calls prog 23 #[.pointer (some ⟨a,0,none⟩),.int .i64 t,.string key] w fun e w'=>e=.returned (.tuple #[.agg #[.bool false,.string ByteArray.empty],.int .i64 r])∧Ycv w w' a k P X q:=by
 obtain ⟨s,L,R,hX⟩:=S
 have hn:Ya8 (s.tx t).isSome key=Yc0 P t key:=by rw [R.isOpen];rfl
 have hnf:¬Yie s t key:=fun hf=>by
  rcases hr with ⟨h1,_⟩ | ⟨_,⟨u,p',hp',hu,h2⟩,_⟩
  ·exact h1 (by rw [←hn];exact hf.1)
  ·obtain ⟨y,hy,_,h3⟩:=R.tx1 u p' hp'
   exact hf.2 u y hy hu (by rw [h3];simpa using h2)
 have he:Ygb s t key=r:=by
  unfold Ygb;rw [hn];rcases hr with ⟨h1,rfl⟩ | ⟨h1,_,rfl⟩
  ·rw [if_neg h1]
  ·rw [if_pos h1]
 have K:=Yzc L.lies L.good L.held t ht key hks hnf k a L.haw L.ca
 rw [he] at K
 refine K.mono ?_
 rintro e w' ⟨h1,h2⟩
 exact ⟨h1,Ydp L hX h2 L.held L.cap rfl R⟩
theorem Y2u (t:Int) (key:ByteArray):(∃ p,P.tx t=some p∧(1≤key.size∧key.size≤8)∧¬Yec P t key false)∨∃ r,(Yc0 P t key≠0∧r=Yc0 P t key)∨(Yc0 P t key=0∧Yec P t key false∧r=8):=by
 by_cases h1:Yc0 P t key=0
 ·by_cases h3:Yec P t key false
  ·exact .inr ⟨8,.inr ⟨h1,h3,rfl⟩⟩
  ·left
   unfold Yc0 Ya8 at h1;split at h1
   ·omega
   ·rename_i ho
    split at h1
    ·omega
    ·rename_i hz
     cases hp:P.tx t with
     | none=>rw [hp] at ho;exact absurd rfl ho
     | some p=>exact ⟨p,rfl,by omega,h3⟩
 ·exact .inr ⟨_,.inl ⟨h1,rfl⟩⟩
abbrev Ups:=List Yac
def Yfu (l:Ups) (key:ByteArray):Prop:=∃ u∈l,u.key=key
abbrev Yov (l:Ups) (f:ByteArray→Bool×ByteArray) (key:ByteArray):Bool×ByteArray:=Yd4 (l.map Ycw) f key
theorem Yow {l:Ups} {f:ByteArray→Bool×ByteArray} (h:¬Yfu l key):Yov l f key=f key:=Ykm _ f key fun u hu e=>by
 obtain ⟨d,hd,rfl⟩:=List.mem_map.1 hu;exact h ⟨d,hd,e⟩
def Yg0 (s:Sv) (U:Int→Ups) (f0:ByteArray→Bool×ByteArray) (left:Lit→Bool) (f:ByteArray→Bool×ByteArray):Prop:=
 ∀ key,(∀ t x,s.tx t=some x→left (.int .i64 t)=false→Yfu (U t) key→f key=Yov (U t) f0 key)∧((∀ t x,s.tx t=some x→left (.int .i64 t)=false→¬Yfu (U t) key)→f key=f0 key)
theorem Yg0.start (s:Sv) (U:Int→Ups) (f0:ByteArray→Bool×ByteArray) (left:Lit→Bool) (h:∀ t x,s.tx t=some x→left (.int .i64 t)=true):Yg0 s U f0 left f0:=fun key=>
 ⟨(fun t x hx hl=>by rw [h t x hx] at hl;cases hl),fun _=>rfl⟩
theorem Yg0.step {U:Int→Ups} {f0 f f':ByteArray→Bool×ByteArray} {left left':Lit→Bool} (h:Yg0 s U f0 left f) (hdis:∀ t u x y key,s.tx t=some x→s.tx u=some y→Yfu (U t) key→Yfu (U u) key→t=u) (t:Int) (x:TxE) (hx:s.tx t=some x) (hl:left (.int .i64 t)=true) (hl':∀ u:Int,left' (.int .i64 u)=false↔left (.int .i64 u)=false∨u=t) (hf:∀ key,f' key=Yov (U t) f key):Yg0 s U f0 left' f':=fun key=>by
 refine ⟨fun u y hy hlu htu=>?_,fun hno=>?_⟩
 ·rw [hf]
  by_cases hut:u=t
  ·subst hut
   refine Yig _ _ _ _ ((h key).2 fun v z hz hlv htv=>?_);have:=hdis v u z y key hz hy htv htu;rw [this,hl] at hlv
   cases hlv
  ·rw [Yow (fun htt=>hut (hdis u t y x key hy hx htu htt))]
   exact (h key).1 u y hy (((hl' u).1 hlu).resolve_right hut) htu
 ·rw [hf,Yow (hno t x hx ((hl' t).2 (.inr rfl)))]
  exact (h key).2 fun u y hy hlu=>hno u y hy ((hl' u).2 (.inl hlu))
theorem Rel.back (h:Rel true s P) {left:Lit→Bool} {f:ByteArray→Bool×ByteArray} (U:Int→Ups) (hU:∀ t p,P.tx t=some p→U t=p.ups) (hf:Yg0 s U (fun k=>Yag (s.cont (Yae k)) k) left f) (hl:∀ kl,left kl=false) (key:ByteArray):f key=P.comm key:=by
 obtain ⟨hwr,hcm⟩:=h.steal rfl;have hview:∀ t p c,P.tx t=some p→p.wrote key=some c→Yag (s.cont (Yae key)) key=(p.wrote key).getD (P.comm key):=fun t p c hp hw=>by rw [hwr t p key c hp hw,hw];rfl
 by_cases hex:∃ t x,s.tx t=some x∧Yfu (U t) key
 ·obtain ⟨t,x,hx,htt⟩:=hex
  obtain ⟨p,hp,_⟩:=Ykn h hx;rw [(hf key).1 t x hx (hl _) htt,hU t p hp];rw [hU t p hp] at htt;obtain ⟨u,hu,e⟩:=htt;obtain ⟨_,_,h1,h2⟩:=h.wf.ups rfl t p hp;have hw:=h1 u hu;rw [e] at hw;obtain ⟨c,hc⟩:=Option.isSome_iff_exists.1 hw;refine Eq.trans (Yig _ _ (fun k=>(p.wrote k).getD (P.comm k)) _ ?_) (h2 key);exact hview t p c hp hc
 ·rw [(hf key).2 fun t x hx _ htt=>hex ⟨t,x,hx,htt⟩]
  by_cases hw:∃ t p c,P.tx t=some p∧p.wrote key=some c
  ·obtain ⟨t,p,c,hp,hc⟩:=hw
   obtain ⟨x,hx,_,_⟩:=h.tx1 t p hp;show Yag (s.cont (Yae key)) key=_;rw [hview t p c hp hc];exact (Yow (f:=fun k=>(p.wrote k).getD (P.comm k)) (fun htt=>hex ⟨t,x,hx,by rw [hU t p hp];exact htt⟩)).symm.trans ((h.wf.ups rfl t p hp).2.2.2 key)
  ·refine hcm key fun t p hp=>?_
   cases hq:p.wrote key with
   | none=>rfl
   | some c=>exact absurd ⟨t,p,c,hp,hq⟩ hw
theorem Ydt.len {lg:List Yac}:∀ {n:Nat} {l:Ups},Ydt lg n l→l.length≤n
 | _,[],_=>Nat.zero_le _
 | n,_ :: r,⟨m,_,_,_,h6,h7⟩=>by have:=Ydt.len h7;simp only [List.length_cons];omega
theorem Yt0:∀ (l:List (ByteArray×(Bool×ByteArray))) (f:ByteArray→Bool×ByteArray) (u:ByteArray×(Bool×ByteArray)) (key:ByteArray),Yd4 (l ++ [u]) f key=if key=u.1 then u.2 else Yd4 l f key
 | [],_,_,_=>rfl
 | _ :: r,_,u,key=>Yt0 r _ u key
def Unr (s:Sv) (U:Int→Ups) (B rb:Nat) (wa:World) (w2:World) (left:Lit→Bool) (cnt nK:Nat) (K:DataW Value):Prop:=
 w2.ranges prog 3 Yb0 s.mo.b rb s.mo.n s.mo.M left cnt∧Yap w2 9 B nK K∧Yd0 K∧nK+cnt*450≤100000∧Yg0 s U (fun k=>Yag (s.cont (Yae k)) k) left (Yat K)∧(∀ q,q<wa.heap.size→q≠B→w2.heap[q]? = wa.heap[q]?)∧Below 0 wa w2
theorem Y2v (h:Yan w s) (g:Yar s) (hb:Ygd s) (U:Int→Ups) (hU:∀ t x,s.tx t=some x→Ydt s.ents x.last (U t)) (hdis:∀ t u x y key,s.tx t=some x→s.tx u=some y→Yfu (U t) key→Yfu (U u) key→t=u) (hint:∀ t x,s.tx t=some x→Yax t):
 Calls prog 301 #[.pointer (some ⟨s.kb,0,none⟩)] w fun e w'=>∃ v B ps s',e=.returned v∧w.heap.size≤B∧Ys8 w' B s' v ps∧(∃ left f,Yg0 s U (fun k=>Yag (s.cont (Yae k)) k) left f∧(∀ kl,left kl=false)∧∀ key,Yag ps key=Ydj (f key))∧Yau s s'∧Yab w w' s s':=by
 obtain ⟨lg,hlg⟩:∃ lg,lg=s.ents:=⟨_,rfl⟩
 rw [←hlg] at hU
 have hbd:Below w.heap.size w w.drew:=(Below.refl _ w).drew
 have KC:Hid (Calls prog 79 #[.pointer (some ⟨s.kb,2,none⟩)] w.drew fun e w'=>e=.returned (.map (some w.heap.size))∧∃ n M s',Yfr w' w.heap.size n M (Yb9 s 8 0)∧Yau s s'∧Yab w w' s s'∧∀ tag,s'.blk tag≠some w.heap.size):=by
  refine (Ys7 (h.below hbd) g).mono ?_;rintro e w' ⟨h1,n,M,s',h2,h3,h4,h5⟩;exact ⟨h1,n,M,s',h2,h3,(Yab.of_below h g hbd).trans h4,h5⟩
 have KE:Hid (∀ W s',Yau s s'→Yab w W s s'→Calls prog 290 #[.pointer (some ⟨s.kb,0,none⟩)] W fun e w'=>∃ v,e=.returned v∧w'.ownsRow W.heap.size 152 9 v lg.length (Ybf lg)∧Below W.heap.size W w'):=fun W s' hp hg=>by
  have:=Yoi hg.lies hg.good;have he:s'.ents=lg:=by rw [hlg];obtain ⟨P,m,rfl,_⟩:=hp;rfl
  rw [hp.same.1,he] at this;exact this
 have HLN:Hid (lg.length≤400):=by
  show lg.length≤400;rw [hlg,Sv.ents,List.length_map,g.logd.len];have:=g.ln;omega
 have HFT:Hid (∀ p∈lg,p.key.size≤8∧p.old.size≤12):=fun p hp=>by
  rw [hlg] at hp;obtain ⟨d,hd,rfl⟩:=List.mem_map.1 hp;obtain ⟨i,hi,rfl⟩:=List.getElem_of_mem hd;have:=(g.logd.at' i hi).2.2.2.2.2.1;exact ⟨this.key,this.old⟩
 have KB:Hid (∀ W s' t x base vE,Yau s s'→Yab w W s s'→s.tx t=some x→W.ownsRow base 152 9 vE lg.length (Ybf lg)→Calls prog 305 #[.pointer (some ⟨s.kb,0,none⟩),.int .i64 t,vE] W fun e w'=>∃ v es,e=.returned v∧w'.ownsRow W.heap.size 152 9 v es.length (Ybf es)∧es=U t∧(∀ e∈es,e.key.size≤8∧e.old.size≤12)∧es.length≤400∧Below W.heap.size W w'):=fun W s' t x base vE hp hg hx hrow=>by
  have htx:s'.tx=s.tx:=by obtain ⟨P,m,rfl,_⟩:=hp;rfl
  have:=Ytq hg.lies hg.good t (hint t x hx) x (by rw [htx];exact hx) base vE hrow HLN.out (U t) (hU t x hx);rw [hp.same.1] at this;refine this.mono ?_;rintro e w' ⟨v,h1,h2,h5⟩;refine ⟨v,U t,h1,h2,rfl,fun e he=>HFT.out e ((hU t x hx).mem e he),?_,h5⟩;have h6:=(hU t x hx).len;have h7:=(hU t x hx).le;have h8:=HLN.out;omega
 have HMO:Hid (∀ W s',Yau s s'→Yab w W s s'→W.cell? ⟨s.kb,5,none⟩=some (.map (some s.mo.b))∧Yap W 3 s.mo.b s.mo.n s.mo.M):=fun W s' hp hg=>by
  obtain ⟨e1,e2,_⟩:=hp.same;have a1:W.cell? ⟨s'.kb,5,none⟩=some (.map (some s'.mo.b)):=Yaa (hg.lies.comp .kind) (Yb1 s' (j:=5) (by omega) rfl);have a2:Yap W 3 s'.mo.b s'.mo.n s'.mo.M:=hg.lies.comp .mo;rw [e1,e2] at a1;rw [e2] at a2;exact ⟨a1,a2⟩
 have HU:Hid (∀ key,Yag (Yb9 s 8 0).reverse key=Yag (s.cont (Yae key)) key):=Ys5 g hb
 have HN:Hid ((Yb9 s 8 0).length≤1000):=by
  have h3:∀ m,m≤8→((List.range m).flatMap s.cont).length≤4*m:=fun m=>by
   induction m with
   | zero=>intro _;simp
   | succ m ih=>
    intro hm;rw [List.range_succ,List.flatMap_append,List.length_append];have:=ih (by omega);have:=(g.rise m (by omega)).2.1;have e1:([m].flatMap s.cont).length=(s.cont m).length:=by simp
    omega
  have:=h3 8 (by omega);show (Yb9 s 8 0).length≤1000;unfold Yb9;simp only [List.length_append,List.take_zero,List.length_nil];omega
 have hK:=Maps.int_keyed (P:=prog) underlying3
 have hSK:Maps.Keyed prog 9:=Maps.string_keyed underlying9
 have HMN:Hid (Maps.size s.mo.M≤200):=by
  have h1:=World.ownsMap.size_le (h.comp .mo);have h2:=g.mon;have h3:=g.ac;show Maps.size s.mo.M≤200;omega
 have HOP:Hid (∀ u:Int,Maps.has s.mo.M (.int .i64 u)=(s.tx u).isSome):=Yhl g
 have HMB:Hid (s.mo.b<w.heap.size):=h.lt .mo _ rfl
 have HDIS:=Yh hdis
 generalize hkb:s.kb=kb at KC KE KB HMO ⊢
 clear h g hb hbd hU hdis hint
 go_enter func301,ntmps301
 go_wp2
 go_region_held3 (fun w'=>True)
  (exact trivial)
  (first
   | (go_at_call 79;go_must (
    refine KC.out.mono ?_;rintro e w1 ⟨rfl,n,M,s',h1,h2,h3,h4⟩;have HX:Hid (Yfr w1 w.heap.size n M (Yb9 s 8 0)∧Yau s s'∧Yab w w1 s s'∧∀ tag,s'.blk tag≠some w.heap.size):=⟨h1,h2,h3,h4⟩;clear h1 h2 h3 h4))
   | (go_at_call 290;go_must (
    refine (KE.out w1 s' HX.out.2.1 HX.out.2.2.1).mono ?_;rintro e w2 ⟨v2,rfl,hrw2,hb2⟩;have HY:Hid (Yfr w2 w.heap.size n M (Yb9 s 8 0)∧Yau s s'∧Yab w w2 s s'∧(∀ tag,s'.blk tag≠some w.heap.size)∧w.heap.size<w1.heap.size∧w2.ownsRow w1.heap.size 152 9 v2 lg.length (Ybf lg)):=⟨⟨HX.out.1.map.below hb2,HX.out.1.ok,HX.out.1.num,HX.out.1.says⟩,HX.out.2.1,HX.out.2.2.1.on_below hb2,HX.out.2.2.2,HX.out.1.map.lt,hrw2⟩;obtain ⟨c5,hmo2⟩:=HMO.out w2 s' HX.out.2.1 (HX.out.2.2.1.on_below hb2);have HM2:=Yh hmo2;clear hb2 hmo2 hrw2)))
 all_goals
  go_wp2_with (first
   | (at_range;refine wpList_range_own _ rfl _ 227 rfl 3 356 hK underlying227 Yb0 s.mo.b s.mo.n s.mo.M rfl HM2.out ?_;intro w0 hrg0 hg0 hs0))
  go_frame;have hb0:Below w2.heap.size w2 w0:=⟨hg0.os,hg0.tape,hg0.output,by omega,fun q hq=>hg0.block q hq (by simp)⟩;have HB0:=Yh hb0;have HR0:=Yh hrg0;clear hg0 hs0 hb0 hrg0;go_loopw [24] (fun _ wr=>∃ left cnt nK K,Unr s U w.heap.size w2.heap.size w2 wr left cnt nK K) (fun _ wr=>wr.rangeLeft s.mo.b w2.heap.size)
  case atStart=>
   obtain ⟨y1,y2,y3,y4,y5,y6⟩:=HY.out;refine ⟨Maps.has s.mo.M,Maps.size s.mo.M,n,M,HR0.out,y1.map.below HB0.out,y1.ok,by have:=y1.num;have:=HN.out;have:=HMN.out;omega,?_,fun q h1 _=>HB0.out.block q h1,HB0.out.mono (Nat.zero_le _)⟩;have hcm:Yat M=fun k=>Yag (s.cont (Yae k)) k:=by
    funext key;rw [y1.says,HU.out]
   rw [hcm];exact Yg0.start s U _ _ fun t x hx=>by rw [HOP.out,hx];rfl
  case round=>
   obtain ⟨left,cnt,nK,K,hun⟩:=hrel;have HUN:=Yh hun;have HGO:Hid (Yab w wr s s'):=HY.out.2.2.1.beside (Nat.le_refl _) HY.out.2.2.2.1 hun.2.2.2.2.2.1 hun.2.2.2.2.2.2;clear hun HR0 HB0;go_wp2_with (first
    | (at_next;refine wpList_next_ranges _ rfl _ rfl 3 hK Yb0 (Value.int .i64) (fun v:Value=>v) (fun key kl hkey=>by obtain ⟨x,rfl,_⟩:=Maps.keyOf_int_inv underlying3 hkey;exact ⟨x,rfl⟩) (fun v y hv=>⟨v,rfl⟩) s.mo.b w2.heap.size s.mo.n s.mo.M left cnt rfl HUN.out.1 ?_ ?_))
   ·intro _ hl0
    have HL0:=Yh hl0;clear hl0;go_wp2_with (first
     | (go_at_call 78;go_must (
      refine (Ys4 HUN.out.2.1 HUN.out.2.2.1 (by have:=HUN.out.2.2.2.1;have:=HN.out;omega)).mono ?_;rintro e w3 ⟨v,ks,rfl,k1,k2,k3⟩;have HZ:Hid (Yfq K ks∧w3.ownsRow wr.heap.size 43 2 v (Ycz K ks).length (Yad (Ycz K ks))∧Below wr.heap.size wr w3):=⟨k1,k2,k3⟩;clear k1 k2 k3)))
    go_ret;obtain ⟨k1,k2,k3⟩:=HZ.out;have h4:=HGO.out;refine ⟨v,wr.heap.size,Ycz K ks,s',rfl,h4.below.size,⟨k2,fun tag k hk=>h4.lies.lt tag k hk,Ygr.2 (Yl1 k1.rise)⟩,⟨left,Yat K,HUN.out.2.2.2.2.1,HL0.out,fun key=>?_⟩,HY.out.2.1,h4.on_below k3⟩;rw [Ys3 k1];rfl
   ·intro x c kl yd yp w3 cnt1 hkey hlx hv hat hrg1 hlt1 hg1 hs1 hen
    obtain ⟨x',hx',rfl,hwf⟩:=Maps.keyOf_int_inv underlying3 hkey;simp only [Value.int.injEq,true_and] at hx';subst hx';simp only [Yb0,Option.some.injEq,Prod.mk.injEq] at hv;obtain ⟨rfl,rfl⟩:=hv;have hhas:Maps.has s.mo.M (.int .i64 x)=true:=Maps.has_true_of_atKey hat;rw [HOP.out] at hhas;obtain ⟨tx,htx⟩:=Option.isSome_iff_exists.1 hhas;obtain ⟨u1,u2,u3,u4,u5,u6,u7⟩:=HUN.out;obtain ⟨y1,y2,y3,y4,y5,y6⟩:=HY.out;have hz2:=u7.size;have hmbl:=HMB.out;have hz0:=y3.below.size;have hz1:w.heap.size<w2.heap.size:=y1.map.lt;have hfr3:∀ q,q<w2.heap.size→q≠w.heap.size→w3.heap[q]? = w2.heap[q]?:=fun q h1 h2=>(hg1.block q (by omega) (by simp;omega)).trans (u6 q h1 h2)
    have hbw3:Below 0 w2 w3:=u7.trans ⟨hg1.os,hg1.tape,hg1.output,hg1.size,fun q hq=>by omega⟩;have hmp3:Yap w3 9 w.heap.size nK K:=u2.kept (hg1.block w.heap.size (by omega) (by simp;omega));have hgo3:Yab w w3 s s':=y3.beside (Nat.le_refl _) y4 hfr3 hbw3;have hrw3:w3.ownsRow w1.heap.size 152 9 v2 lg.length (Ybf lg):=Yda y6 (fun q hq=>hfr3 q (y6.lt q hq).2 (fun e=>by have:=(y6.lt q hq).1;omega));have KB3:Hid (Calls prog 305 #[.pointer (some ⟨kb,0,none⟩),.int .i64 x,v2] w3 fun e w'=>∃ v es,e=.returned v∧w'.ownsRow w3.heap.size 152 9 v es.length (Ybf es)∧es=U x∧(∀ e∈es,e.key.size≤8∧e.old.size≤12)∧es.length≤400∧Below w3.heap.size w3 w'):=KB.out w3 s' x tx w1.heap.size v2 y2 hgo3 htx hrw3;have HW3:Hid (Yap w3 9 w.heap.size nK K∧w3.ranges prog 3 Yb0 s.mo.b w2.heap.size s.mo.n s.mo.M (fun z=>left z && !z.sameKey (.int .i64 x)) cnt1∧(∀ q,q<w2.heap.size→q≠w.heap.size→w3.heap[q]? = w2.heap[q]?)∧Below 0 w2 w3):=⟨hmp3,hrg1,hfr3,hbw3⟩;have HLX:=Yh hlx;have HTX:=Yh htx;have HME:=Yh hlt1;have HSZ:Hid (s.mo.b<w.heap.size∧w.heap.size<w2.heap.size):=⟨hmbl,hz1⟩;clear hat hrg1 hlt1 hg1 hs1 hkey hwf hhas htx u1 u2 u3 u4 u5 u6 u7 y1 y2 y3 y4 y5 y6 hz2 hmbl hz0 hz1 hfr3 hbw3 hmp3 hgo3 hrw3 hlx c5;obtain ⟨wa,rfl⟩:∃ wa,wa=wr:=⟨_,rfl⟩;go_wp2_with (first
     | (go_at_call 305;go_must (
      refine KB3.out.mono ?_;rintro e wb ⟨ve,es,rfl,k1,k2,k3,hes,k5⟩;obtain ⟨ad,cap,rfl,_⟩:=Ya6 k1;have HES:=Yh k1;have HEU:=Yh k2;have HEF:=Yh k3;have HWB:=Yh k5;clear k1 k2 k3 k5)))
    go_loopw [33] (fun i wr=>∃ (j nQ:Nat) (Q:DataW Value),j≤es.length∧i=.int .i64 j∧wr.ranges prog 3 Yb0 s.mo.b w2.heap.size s.mo.n s.mo.M (fun z=>left z && !z.sameKey (.int .i64 x)) cnt1∧Yap wr 9 w.heap.size nQ Q∧Yd0 Q∧nQ≤nK+j∧(∀ key,Yat Q key=Yd4 ((es.take j).map Ycw) (Yat K) key)∧(∀ q,q<wb.heap.size→q≠w.heap.size→wr.heap[q]? = wb.heap[q]?)∧Below 0 wb wr) (fun i _=>es.length - (intOf i).toNat)
    case atStart=>
     obtain ⟨a1,a2,a3,a4⟩:=HW3.out;refine ⟨0,nK,K,by omega,rfl,a2.kept (row:=none) ⟨HWB.out.os,HWB.out.tape,HWB.out.output,HWB.out.size,fun q hq _=>HWB.out.block q hq⟩ (by simp) (by simp),a1.below HWB.out,HUN.out.2.2.1,by omega,fun key=>rfl,fun _ _ _=>rfl,Below.refl _ _⟩
    case round=>
     obtain ⟨j,nQ,Q,hj,rfl,hrq,hmq,hoq,hnq,hsq,hfq,hbq⟩:=hrel;have HQ:Hid (wr.ranges prog 3 Yb0 s.mo.b w2.heap.size s.mo.n s.mo.M (fun z=>left z && !z.sameKey (.int .i64 x)) cnt1∧Yap wr 9 w.heap.size nQ Q∧Yd0 Q∧(∀ key,Yat Q key=Yd4 ((es.take j).map Ycw) (Yat K) key)∧(∀ q,q<wb.heap.size→q≠w.heap.size→wr.heap[q]? = wb.heap[q]?)∧Below 0 wb wr):=⟨hrq,hmq,hoq,hsq,hfq,hbq⟩;have hzw:w.heap.size<wr.heap.size:=hmq.lt;have hnQ:nQ≤100000:=by have:=HUN.out.2.2.2.1;have:=HME.out;omega
     have HOR:Hid (wr.ownsRow w3.heap.size 152 9 (.slice ad es.length cap) es.length (Ybf es)):=Yda HES.out (fun q hq=>hfq q (HES.out.lt q hq).2 (fun e=>by have:=(HES.out.lt q hq).1;have:=HW3.out.1.lt;omega));clear hrq hmq hoq hsq hfq hbq;by_cases hltj:j<es.length
     ·have hltj':(j:Int)<(es.length:Int):=by omega
      obtain ⟨g2,cap',he⟩:=Ybn HOR.out (by omega);simp only [Value.slice.injEq] at he;obtain ⟨rfl,-,rfl⟩:=he;have hget:=List.getElem?_eq_getElem hltj;have hsz:=HEF.out _ (List.getElem_mem hltj);have HTK:Hid ((es.take (j+1)).map Ycw=(es.take j).map Ycw ++ [Ycw es[j]]):=by
       show _=_;rw [List.take_add_one,hget,List.map_append];rfl
      generalize es[j]=ej at hget hsz HTK;obtain ⟨kind,etx,prev,next,key,oldIs,old,newIs,new⟩:=ej;simp only at hsz;have a0:wr.cell? ⟨g2,j*9,none⟩=some (.int .i64 kind):=Yal HOR.out (by have h9:=Ybx _ j _ hget 0 (.int .i64 kind) rfl;rw [Nat.add_zero] at h9;exact h9);have a1:wr.cell? ⟨g2,j*9+1,none⟩=some (.int .i64 etx):=Yal HOR.out (Ybx _ j _ hget 1 _ rfl);have a2:wr.cell? ⟨g2,j*9+2,none⟩=some (.int .i64 prev):=Yal HOR.out (Ybx _ j _ hget 2 _ rfl);have a3:wr.cell? ⟨g2,j*9+3,none⟩=some (.int .i64 next):=Yal HOR.out (Ybx _ j _ hget 3 _ rfl);have a4:wr.cell? ⟨g2,j*9+4,none⟩=some (.string key):=Yal HOR.out (Ybx _ j _ hget 4 _ rfl);have a5:wr.cell? ⟨g2,j*9+5,none⟩=some (.bool oldIs):=Yal HOR.out (Ybx _ j _ hget 5 _ rfl);have a6:wr.cell? ⟨g2,j*9+6,none⟩=some (.string old):=Yal HOR.out (Ybx _ j _ hget 6 _ rfl);have a7:wr.cell? ⟨g2,j*9+7,none⟩=some (.bool newIs):=Yal HOR.out (Ybx _ j _ hget 7 _ rfl);have a8:wr.cell? ⟨g2,j*9+8,none⟩=some (.string new):=Yal HOR.out (Ybx _ j _ hget 8 _ rfl);clear hget;go_wp2_with (first
       | (at_mapUpdate;go_must (
        refine wpList_mapUpdate_in _ rfl _ _ _ 138 rfl 9 38 hSK underlying138 Yb0 w.heap.size nQ Q rfl ?hm (by unfold maxLen;omega) (.string key) (.agg #[.bool oldIs,.string old]) (lit key) rfl rfl (Yfk key (by omega)) (.held (.agg #[.bool oldIs,.string old])) [] rfl ?_
        case hm=>exact HQ.out.2.1.kept (Below.heap_alloc _ _ _ hzw)
        intro w5 hm5 htu5;have HM5:=Yh hm5;have HT5:=Yh htu5;clear hm5 htu5)))
      obtain ⟨t1,t2,t3⟩:=Ygq HT5.out;obtain ⟨q1,q2,q3,q4,q5,q6⟩:=HQ.out;obtain ⟨z1,z2⟩:=HSZ.out;have hIs:=World.ownsMap.isMap q2;have hbl:∀ q,q<wr.heap.size→q≠w.heap.size→w5.heap[q]? = wr.heap[q]?:=fun q h1 h2=>by rw [t1 q h2,Below.heap_alloc _ _ _ h1]
      have hb5:Below 0 wr w5:=((Below.refl 0 wr).alloc (Nat.zero_le _) _).trans t3;have hgr:wr.grownBy w5 (some w.heap.size):=⟨hb5.os,hb5.tape,hb5.output,hb5.size,fun q h1 h2=>hbl q h1 (fun e=>h2 (by rw [e]))⟩;refine ⟨⟨j+1,nQ+1,_,by omega,by simp,q1.kept hgr (by simp;omega) (by simp;omega),HM5.out,q3.put hIs key hsz.1 oldIs old hsz.2,by omega,fun k'=>?_,fun q h1 h2=>(hbl q (by have:=q6.size;omega) h2).trans (q5 q h1 h2),q6.trans hb5⟩,by simp [intOf];omega⟩;rw [Ys6 hIs,HTK.out,Yt0,q4];rfl
     ·obtain rfl:j=es.length:=by omega
      go_wp2;obtain ⟨q1,q2,q3,q4,q5,q6⟩:=HQ.out;obtain ⟨a1,a2,a3,a4⟩:=HW3.out;have hz3:=HWB.out.size;have hz4:=a4.size;refine ⟨⟨_,cnt1,nQ,Q,q1,q2,q3,by have:=HUN.out.2.2.2.1;have:=HME.out;omega,?_,fun q h1 h2=>?_,?_⟩,?_⟩
      ·refine HUN.out.2.2.2.2.1.step HDIS.out x tx HTX.out HLX.out (fun u=>?_) (fun key=>?_)
       ·by_cases e:u=x
        ·subst e;simp [Lit.sameKey]
        ·rw [Maps.sameKey_ne (by simpa using e)];simp [e]
       ·rw [q4,List.take_length,HEU.out]
      ·exact ((q5 q (by omega) h2).trans (HWB.out.block q (by omega))).trans (a3 q h1 h2)
      ·exact (a4.trans (HWB.out.mono (Nat.zero_le _))).trans q6
      ·rw [q1.left_eq,HUN.out.1.left_eq];exact HME.out
theorem Yox {w':World} {P':Sp} {q' B:Nat} (h:Yc5 w a (Yb8 k) s q) (hX:∀ x,X x→x<w.heap.size∧∀ tag,s.blk tag≠some x) (g:Yab w w' s s') (hh:Yao s' q') (hc:Cap s') (hk:s'.kb=s.kb) (hr:Rel k s' P') (hap:∀ tag k,s'.blk tag=some k→k<B):Ycv w w' a k P' X q'∧Yb6 w' a k P' (fun x=>X x∨(B≤x∧x<w'.heap.size)) q':=by
 have h0:=Ydp h hX g hh hc hk hr;refine ⟨h0,s',h.go g hh hc hk,hr,fun x hx=>?_⟩;rcases hx with hx | ⟨h1,h2⟩
 ·obtain ⟨h1,h2⟩:=hX x hx
  refine ⟨by have:=g.below.size;omega,fun tag ht=>?_⟩;rcases g.grown tag x ht with h3 | h3
  ·exact h2 tag h3
  ·omega
 ·exact ⟨h2,fun tag ht=>by have:=hap tag x ht;omega⟩
def Y2w (w w':World) (a:Nat) (k:Bool) (P:Sp) (X:Nat→Prop) (q:Nat) (v:Value):Prop:=∃ B ps,w'.ownsRow B 43 2 v ps.length (Yad ps)∧w.heap.size≤B∧Ybi ps∧(∀ key,Yag ps key=P.comm key)∧Ycv w w' a k P X q∧Yb6 w' a k P (fun x=>X x∨(B≤x∧x<w'.heap.size)) q
theorem Y2x (S:Yb6 w a k P X q):
 Calls prog 35 #[.pointer (some ⟨a,0,none⟩)] w fun e w'=>∃ v,e=.returned (.tuple #[v,.int .i64 0])∧Y2w w w' a k P X q v:=by
 obtain ⟨s,L,R,hX⟩:=S
 cases k with
 | true=>
  have hopen:∀ t x,s.tx t=some x→∃ p,P.tx t=some p:=fun t x hx=>by
   obtain ⟨p,hp,_⟩:=Ykn R hx;exact ⟨p,hp⟩
  let U:Int→Ups:=fun t=>((P.tx t).map (·.ups)).getD []
  have hU:∀ t p,P.tx t=some p→U t=p.ups:=fun t p hp=>by show ((P.tx t).map (·.ups)).getD []=_;rw [hp];rfl
  have hUc:∀ t x,s.tx t=some x→Ydt s.ents x.last (U t):=fun t x hx=>by
   obtain ⟨p,hp⟩:=hopen t x hx;obtain ⟨x',hx',hl',_⟩:=R.tx1 t p hp;rw [hx] at hx';simp only [Option.some.injEq] at hx';subst hx';rw [hU t p hp,R.nums.2.2,hl'];exact (R.wf.ups rfl t p hp).1
  have htch:∀ t p key,P.tx t=some p→Yfu (U t) key→(p.wrote key).isSome=true:=fun t p key hp ⟨u,hu,e⟩=>by
   rw [hU t p hp] at hu;rw [←e];exact (R.wf.ups rfl t p hp).2.2.1 u hu
  have hdis:∀ t u x y key,s.tx t=some x→s.tx u=some y→Yfu (U t) key→Yfu (U u) key→t=u:=fun t u x y key hx hy h1 h2=>by
   obtain ⟨p,hp⟩:=hopen t x hx;obtain ⟨p',hp'⟩:=hopen u y hy;exact R.wf.one t u p p' key hp hp' (htch t p key hp h1) (htch u p' key hp' h2)
  have hint:∀ t x,s.tx t=some x→Yax t:=fun t x hx=>by
   obtain ⟨p,hp⟩:=hopen t x hx;obtain ⟨h5,h6,h7⟩:=R.wf.tle hp;exact ⟨by omega,by omega⟩
  refine Y08 a s.kb _ L.ca ((Y2v L.lies L.good R.buck U hUc hdis hint).mono ?_);rintro e w' ⟨v,B,ps,s',h5,h6,h7,⟨left,f,hf,hl,h8⟩,h9,h10⟩;refine ⟨v,h5,B,ps,h7.row,h6,h7.rise,fun key=>?_,Yox L hX h10 (h9.held L.held) (h9.cap L.cap) h9.same.1 (R.paged h9) h7.apart⟩;rw [h8,R.back U hU hf hl key,R.wf.nrm.1]
 | false=>
  obtain ⟨_,_,_,b4⟩:=R.beside rfl;refine Y09 a s.kb _ L.ca ((Y05 L.lies L.good R.buck).mono ?_);rintro e w' ⟨v,B,ps,s',h5,h6,h7,h8,h9,h10⟩;exact ⟨v,h5,B,ps,h7.row,h6,h7.rise,fun key=>by rw [h8];exact b4 key,Yox L hX h10 (h9.held L.held) (h9.cap L.cap) h9.same.1 (R.paged h9) h7.apart⟩
theorem Yc5.below {W:World} {k:TypeId} (L:Yc5 w a k s q) (hb:Below w.heap.size w W):Yc5 W a k s q:=L.go (Yab.of_below L.lies L.good hb) L.held L.cap rfl
theorem Y2y (S:Yb6 w a k P X q) (t:Int) (ht:Yax t) (hp:P.tx t=none):
 Calls prog 21 #[.pointer (some ⟨a,0,none⟩),.int .i64 t] w fun e w'=>e=.returned (.int .i64 5)∧Ycv w w' a k P X q:=by
 obtain ⟨s,L,R,hX⟩:=S
 refine (Yn7 L.lies a t (fun x s'=>x=5∧s'=s) (fun W hW _ _=>(Ysk k (L.below hW) t ht (R.tx0 t hp) _ _).mono ?_)).mono ?_
 ·rintro e w' ⟨h1,h2⟩
  exact ⟨5,s,h1,⟨rfl,rfl⟩,h2⟩
 ·rintro e w' ⟨x,s',h1,⟨rfl,rfl⟩,h2⟩
  exact ⟨h1,Ydp L hX h2 L.held L.cap rfl R⟩
theorem Y2z (S:Yb6 w a k P X q) (t:Int) (ht:Yax t) (hp:P.tx t=none):
 Calls prog 25 #[.pointer (some ⟨a,0,none⟩),.int .i64 t] w fun e w'=>e=.returned (.int .i64 5)∧Ycv w w' a k P X q:=by
 obtain ⟨s,L,R,hX⟩:=S
 refine (Yn8 L.lies a t (fun x s'=>x=5∧s'=s) (fun W hW _ _=>(Ysk k (L.below hW) t ht (R.tx0 t hp) _ _).mono ?_)).mono ?_
 ·rintro e w' ⟨h1,h2⟩
  exact ⟨5,s,h1,⟨rfl,rfl⟩,h2⟩
 ·rintro e w' ⟨x,s',h1,⟨rfl,rfl⟩,h2⟩
  exact ⟨h1,Ydp L hX h2 L.held L.cap rfl R⟩
theorem Y20 (h:Yan w s) (g:Yar s):
 Calls prog 277 #[.pointer (some ⟨s.kb,0,none⟩)] w fun e w'=>∃ v,e=.returned v∧w'.ownsRow w.heap.size 152 9 v s.ents.length (Ybf s.ents)∧Below w.heap.size w w':=by
 have K:=Yh (Yoi h g)
 clear h g
 go_enter func277,ntmps277
 go_wp2_with (first
  | (go_at_call 290;go_must (refine K.out.mono ?_;rintro e w1 ⟨v,rfl,h1,h2⟩;have HX:Hid (w1.ownsRow w.heap.size 152 9 v s.ents.length (Ybf s.ents)∧Below w.heap.size w w1):=⟨h1,h2⟩;clear h1 h2)))
 go_ret
 exact ⟨v,rfl,HX.out⟩
theorem Y21 (k:Bool) (c:Nat) (w:World):(method 476 (Yb8 k) (.pointer (some ⟨c,0,none⟩)) "Entries").run prog w=.ok (277,.pointer (some ⟨c,0,none⟩)) w:=by
 cases k <;> kernel_rfl
def Yoy (w w':World) (a:Nat) (k:Bool) (P:Sp) (X:Nat→Prop) (q:Nat) (v:Value):Prop:=w'.ownsRow w.heap.size 152 9 v P.log.length (Ybf P.log)∧Ycv w w' a k P X q∧Yb6 w' a k P (fun x=>X x∨(w.heap.size≤x∧x<w'.heap.size)) q
theorem Y22 (S:Yb6 w a k P X q):
 Calls prog 36 #[.pointer (some ⟨a,0,none⟩)] w fun e w'=>∃ v,e=.returned (.tuple #[v,.int .i64 0])∧Yoy w w' a k P X q v:=by
 obtain ⟨s,L,R,hX⟩:=S
 have ca:=L.ca
 have K:Hid (Calls prog 277 #[.pointer (some ⟨s.kb,0,none⟩)] w fun e w'=>∃ v,e=.returned v∧Yoy w w' a k P X q v):=by
  refine (Y20 L.lies L.good).mono ?_;rintro e w' ⟨v,h1,h2,h3⟩;rw [R.nums.2.2] at h2;exact ⟨v,h1,h2,Yox L hX (Yab.of_below L.lies L.good h3) L.held L.cap rfl R (fun tag q hq=>L.lies.lt tag q hq)⟩
 have hme:=Y21 k s.kb
 generalize s.kb=kb at ca K hme
 generalize Yoy w=LX at K ⊢
 clear hX L R
 cases k with
 | true=>
  simp only [Yb8] at ca hme;go_enter func36,ntmps36;go_wp2_with (first
   | (go_at_call 41;refine (Yfz _ _ _ _ ca).mono ?_;rintro e w' ⟨rfl,rfl⟩)
   | (go_at_call 277;go_must (refine K.out.mono ?_;rintro e w' ⟨v,rfl,hr⟩;have HR:=Yh hr;clear hr)))
  go_ret2;exact ⟨v,rfl,HR.out⟩
 | false=>
  simp only [Yb8] at ca hme;go_enter func36,ntmps36;go_wp2_with (first
   | (go_at_call 41;refine (Yfz _ _ _ _ ca).mono ?_;rintro e w' ⟨rfl,rfl⟩)
   | (go_at_call 277;go_must (refine K.out.mono ?_;rintro e w' ⟨v,rfl,hr⟩;have HR:=Yh hr;clear hr)))
  go_ret2;exact ⟨v,rfl,HR.out⟩
def Yep (s:Sv) (e:Yac) (v':Value):Sv:=
 { s with len:=s.len+1,count:=s.count+1,D:=s.D.setIfInBounds 27776 v',ws:=s.ws ++ [(34+s.len,Yam s.start (s.count+1) e.body)],v:=v',log:=s.log ++ [(e,s.count+1)] }
theorem Y23 (s:Sv) (e:Yac) (v':Value):(Yep s e v').cells=s.cells.setIfInBounds 1 (.int .i64 ((s.len+1:Nat):Int)):=by
 unfold Sv.cells;have:(Yep s e v').made=s.made:=rfl;rw [this]
 cases s.made <;> simp [Yep]
theorem Y24 (h:Yan w s) (g:Yar s) (hlen:s.len≤390) (e:Yac) (he:e.Fits) (hoe:e.oldIs=false→e.old.size=0) (hne:e.newIs=false→e.new.size=0):
 Calls prog 286 #[.pointer (some ⟨s.kb,0,none⟩),.agg e.cells] w fun r w'=>r=.returned (.int .i64 ((s.len+1:Nat):Int))∧∃ v',Yab w w' s (Yep s e v'):=by
 have hwn:=g.wn
 have hct:=g.ct
 have hac:=g.ac
 have hown:w.ownsRow (s.db+1) 143 65 s.v s.ws.length (Ycs s.ws):=h.comp .uns
 have hn:∀ tag k,s.blk tag=some k→tag≠.uns→s.v.ownBlock≠some k:=fun tag k hk ht' e=>ht' (h.apart tag .uns k hk e)
 refine (Yrq s.kb s.vb s.db s.cells s.ty s.len s.start s.count s.turn s.D s.ws s.v e w (h.comp .kind) (Yb1 s (by omega) rfl) (Yb1 s (by omega) rfl) hlen (h.comp .vol) g.st.1 g.st.2 hct.1 (by omega) (h.disk g) g.fuse hown (by omega)
  (h.ne (a:=.kind) (b:=.vol) rfl rfl (by simp)) (h.ne (a:=.kind) (b:=.disk) rfl rfl (by simp)) (h.ne (a:=.vol) (b:=.disk) rfl rfl (by simp)) (hn .kind _ rfl (by simp)) (hn .vol _ rfl (by simp)) he).mono ?_
 rintro r w' ⟨rfl,v',k1,k2,k3,k4,k5,k7,k8⟩
 have e1:(Yep s e v').ws=s.ws ++ [(34+s.len,Yam s.start (s.count+1) e.body)]:=rfl
 have k4':w'.ownsRow (s.db+1) 143 65 v' (Yep s e v').ws.length (Ycs (Yep s e v').ws):=by
  rw [e1,List.length_append];exact k4
 have hB:∀ tag,tag≠.uns→(Yep s e v').blk tag=s.blk tag:=fun tag ht'=>by
  cases tag using Tag.elim with
  | uns=>exact absurd rfl ht'
  | _=>rfl
 have hgr:Ydb s (Yep s e v') w.heap.size:=fun tag k hk=>by
  by_cases hu:tag=.uns
  ·subst hu
   rcases k5 with h1 | ⟨j,h1,h2⟩
   ·exact .inl (h1.symm.trans hk)
   ·have:v'.ownBlock=some k:=hk
    rw [h2] at this;simp at this;exact .inr (by omega)
  ·rw [hB tag hu] at hk;exact .inl hk
 have hul:∀ k,v'.ownBlock=some k→s.db+1≤k∧k<w'.heap.size:=World.ownsRow.lt k4
 have hul1:∀ tag k,s.blk tag=some k→tag≠.uns→v'.ownBlock≠some k:=fun tag k hk htg e5=>by
  rcases k5 with h1 | ⟨j,h1,h2⟩
  ·exact hn tag k hk htg (by rw [←h1];exact e5)
  ·rw [h2] at e5;simp at e5;have:=h.lt tag k hk;omega
 refine ⟨rfl,v',⟨?_,?_,hgr,fun k hk hnt=>k7 k hk (fun e5=>hnt .kind (by rw [e5];rfl)) (fun e5=>hnt .vol (by rw [e5];rfl)) (fun e5=>hnt .disk (by rw [e5];rfl)) (fun e5=>hnt .uns e5),k8⟩⟩
 ·refine h.step (fun tag=>tag=.kind∨tag=.vol∨tag=.disk∨tag=.uns) ?_ ?_ ?_ ?_ ?_ k8.size
  ·intro tag htg
   simp only [not_or] at htg;obtain ⟨t1,t2,t3,t4⟩:=htg;refine ⟨hB tag t4,fun W hW=>?_⟩
   cases tag using Tag.elim with
   | kind=>exact absurd rfl t1
   | vol=>exact absurd rfl t2
   | disk=>exact absurd rfl t3
   | uns=>exact absurd rfl t4
   | _=>exact hW
  ·intro tag k htg hk
   simp only [not_or] at htg;obtain ⟨t1,t2,t3,t4⟩:=htg;exact k7 k (h.lt tag k hk) (fun e5=>t1 (h.apart tag .kind k hk (by rw [e5];rfl))) (fun e5=>t2 (h.apart tag .vol k hk (by rw [e5];rfl))) (fun e5=>t3 (h.apart tag .disk k hk (by rw [e5];rfl))) (fun e5=>t4 (h.apart tag .uns k hk e5))
  ·rintro tag (rfl | rfl | rfl | rfl)
   ·show w'.heap[s.kb]? = some (.cells (Yep s e v').cells s.ty (0,0))
    rw [Y23];exact k1
   ·exact k2
   ·exact k3
   ·exact k4'
  ·intro tag k htg hk
   by_cases hu:tag=.uns
   ·rcases hgr tag k hk with h1 | h1
    ·exact .inl h1
    ·subst hu;exact .inr ⟨h1,(hul k hk).2⟩
   ·rw [hB tag hu] at hk;exact .inl hk
  ·intro a b k ha hb h1 h2
   by_cases hau:a=.uns
   ·by_cases hbu:b=.uns
    ·rw [hau,hbu]
    ·rw [hB b hbu] at h2
     subst hau;exact absurd h1 (hul1 b k h2 hbu)
   ·rw [hB a hau] at h1
    by_cases hbu:b=.uns
    ·subst hbu
     exact absurd h2 (hul1 a k h1 hau)
    ·rw [hB b hbu] at h2
     exact h.apart a b k h1 h2
 ·have hbody:(e.body).length≤48:=by rw [Yac.body_length _ he];omega
  refine { dsz:=by show (s.D.setIfInBounds 27776 v').size=27779;rw [Array.size_setIfInBounds];exact g.dsz,dv:=?_,fuse:=?_,ok:=?_,wn:=?_,ln:=?_,db:=?_,wb:=?_,have':=g.have',lack:=g.lack,room:=g.room,load:=fun n hn'=>?_,chk:=g.chk,logd:=?_,wl:=?_,rise:=g.rise,st:=g.st,ct:=?_,ac:=g.ac,mon:=g.mon,mcn:=?_,isOpen:=g.isOpen,notOpen:=g.notOpen }
  ·show (s.D.setIfInBounds 27776 v')[27776]? = some v'
   exact Array.getElem?_setIfInBounds_self_of_lt (by rw [g.dsz];omega)
  ·show (s.D.setIfInBounds 27776 v')[27777]? = some (.int .i64 0)
   rw [Array.getElem?_setIfInBounds_ne (by omega)];exact g.fuse
  ·intro p hp
   rcases List.mem_append.1 hp with h1 | h1
   ·exact g.ok p h1
   ·simp at h1
    subst h1;exact ⟨by show 34+s.len<434;omega,Yeh _ _ _ hbody,Yfy _ _ _ (Yac.body_one _)⟩
  ·rw [e1,List.length_append]
   show s.ws.length+1≤s.len+1+100;omega
  ·show s.len+1≤391
   omega
  ·intro i u hi hu
   have hu':(s.D.setIfInBounds 27776 v')[i]? = some u:=hu;rw [Array.getElem?_setIfInBounds_ne (by omega)] at hu';exact g.db i u hi hu'
  ·intro p hp
   rcases List.mem_append.1 hp with h1 | h1
   ·exact g.wb p h1
   ·simp at h1
    subst h1;exact Ylt _ _ _ (Yac.body_byte _ he)
  ·obtain ⟨⟨a1,a2,a3,a4⟩,b2,b3,b4,b5⟩:=g.load n hn'
   refine ⟨⟨⟨?_,?_⟩,⟨?_,?_⟩,a3,a4⟩,b2,b3,b4,b5.1.mono (by show s.count≤s.count+1;omega),b5.2.mono (by show s.count≤s.count+1;omega)⟩
   ·exact (Yfa _ _ _ _ _ _ (by omega) (by omega)).trans a1.1
   ·exact (Yfa _ _ _ _ _ _ (by omega) (by omega)).trans a1.2
   ·exact (Yfa _ _ _ _ _ _ (by omega) (by omega)).trans a2.1
   ·exact (Yfa _ _ _ _ _ _ (by omega) (by omega)).trans a2.2
  ·exact g.logd.snoc (by omega) g.st e (s.count+1) v' (by omega) he hoe hne
  ·obtain ⟨m,hm,hws⟩:=g.wl
   exact ⟨m,by show m≤s.len+1;omega,Yrz g.logd.len hm hws (e,s.count+1)⟩
  ·show 0≤s.count+1∧s.count+1≤100+((s.len+1:Nat):Int)+1000*s.acts
   omega
  ·have:=g.mcn
   show s.mc.n≤s.len+1;omega
def Ydq:Yac:=⟨5,0,0,0,ByteArray.empty,false,ByteArray.empty,false,ByteArray.empty⟩
structure Yoz (s s':Sv):Prop where
 nums:s'.kb=s.kb∧s'.begun=s.begun∧s'.acts=s.acts+1∧s'.ents=s.ents ++ [Ydq]
 maps:s'.mo=s.mo∧s'.made=s.made
 parts:s'.cont=s.cont∧s'.tx=s.tx∧s'.mt=s.mt
def Ykp (w:World) (s:Sv) (x:Int) (w':World):Prop:=(120≤s.acts∧x=10∧w=w')∨(s.acts<120∧x=0∧∃ s',Yoz s s'∧Yab w w' s s')
theorem Y25 (h:Yan w s) (g:Yar s) (hlen:s.len≤390) (hne:∀ n,n<8→∀ q∈s.cont n,1≤q.1.size):
 Calls prog 274 #[.pointer (some ⟨s.kb,0,none⟩)] w fun e w'=>∃ x,e=.returned (.int .i64 x)∧Ykp w s x w':=by
 have c7:w.cell? ⟨s.kb,7,none⟩=some (.int .i64 (s.acts:Int)):=Yaa (h.comp .kind) (Yb1 s (by omega) rfl)
 have f7:w.frozen? ⟨s.kb,7,none⟩=false:=Yah 7 (h.comp .kind)
 have KS:=Ynr s.kb (s.acts:Int) w c7
 have hac:=g.ac
 by_cases ha:120≤s.acts
 ·have ha':(120:Int)≤(s.acts:Int):=by omega
  have HE:Hid (Ykp w s 10 w):=.inl ⟨ha,rfl,rfl⟩;generalize Ykp w s=B at HE ⊢;clear h g hne;go_enter func274,ntmps274;go_wp2_with (first
   | (go_at_call 285;refine KS.mono ?_;rintro e w' ⟨rfl,rfl⟩))
  go_ret;exact ⟨10,rfl,HE.out⟩
 ·have ha':¬(120:Int)≤(s.acts:Int):=by omega
  have hw7:wrap64 ((s.acts:Int)+1)=(s.acts:Int)+1:=by simp only [wrap64];omega
  have hG1:=Ynz h g (by omega);obtain ⟨W1,hW1⟩:∃ W1,W1=w.setCell ⟨s.kb,7,none⟩ (.int .i64 ((s.acts:Int)+1)):=⟨_,rfl⟩;rw [←hW1] at hG1;have KA:Hid (∀ W,W.heap=W1.heap→Below 0 W1 W→Calls prog 286 #[.pointer (some ⟨s.kb,0,none⟩),.agg Ydq.cells] W fun r w'=>r=.returned (.int .i64 ((s.len+1:Nat):Int))∧∃ v',Yab w w' s (Yep (acted s) Ydq v')):=fun W hW hb=>by
   have hl:Yan W (acted s):=hG1.lies.frame (fun tag k _=>by rw [hW]) (by rw [hW];exact Nat.le_refl _);refine (Y24 hl hG1.good hlen Ydq ⟨by simp [Ydq],by simp [Ydq],by simp [Ydq],by simp [Ydq],by simp [Ydq],by simp [Ydq],by simp [Ydq]⟩ (fun _=>rfl) (fun _=>rfl)).mono ?_;rintro r w' ⟨h1,v',h2⟩;refine ⟨h1,v',?_⟩;have h3:Yab W1 W (acted s) (acted s):=⟨hl,hG1.good,Ydb.refl _ _,fun q _ _=>by rw [hW],hb⟩;exact hG1.trans (h3.trans h2)
  have KF:Hid (∀ W v',Yab w W s (Yep (acted s) Ydq v')→Calls prog 287 #[.pointer (some ⟨s.kb,0,none⟩)] W fun r w'=>r=.returned (.tuple #[])∧Yab w w' s (synced (Yep (acted s) Ydq v'))):=fun W v' hW=>by
   refine (Yn0 hW.lies hW.good (by show s.ws ++ _≠[];simp)).mono ?_;rintro r w' ⟨h1,h2⟩;exact ⟨h1,hW.trans h2⟩
  have KL:Hid (∀ W v',Yab w W s (synced (Yep (acted s) Ydq v'))→Calls prog 81 #[.pointer (some ⟨s.kb,2,none⟩)] W fun r w'=>r=.returned (.tuple #[])∧Ykp w s 0 w'):=fun W v' hW=>by
   have hct:=g.ct;refine (Y0t hW.lies hW.good rfl hne (by show s.count+1+8≤100+((s.len+1:Nat):Int)+1000*((s.acts+1:Nat):Int);omega)).mono ?_;rintro r w' ⟨h1,s',h2,h3⟩;refine ⟨h1,.inr ⟨by omega,rfl,s',⟨⟨h2.nums.1,h2.nums.2.2.2.2.2.1,h2.nums.2.2.2.2.2.2,?_⟩,⟨h2.maps.1,h2.maps.2⟩,⟨h2.parts.1,h2.parts.2.1,h2.parts.2.2.1⟩⟩,hW.trans h3⟩⟩;unfold Sv.ents;rw [h2.parts.2.2.2];show (s.log ++ [_]).map _=_;rw [List.map_append];rfl
  have hkb:s.kb<w.heap.size:=h.lt .kind _ rfl;simp only [Ydq,Yac.cells] at KA;generalize Ykp w s=B at KL ⊢;generalize Yab w=GO at KA KF KL;generalize hac2:(s.acts:Int)=ac at *;generalize s.kb=kb at *;clear h g hne hG1;go_enter func274,ntmps274;go_wp2_with (first
   | (go_at_call 285;refine KS.mono ?_;rintro e w' ⟨rfl,rfl⟩)
   | (go_at_call 286;go_must (
    refine (KA.out _ (by rw [hW1]) (by rw [hW1];exact Below.refl _ _)).mono ?_;rintro e w2 ⟨rfl,v',hg2⟩;have HG2:=Yh hg2;clear hg2))
   | (go_at_call 287;go_must (
    refine (KF.out _ _ HG2.out).mono ?_;rintro e w3 ⟨rfl,hg3⟩;have HG3:=Yh hg3;clear hg3))
   | (go_at_call 81;go_must (
    refine (KL.out _ _ HG3.out).mono ?_;rintro e w4 ⟨rfl,hg4⟩;have HG4:=Yh hg4;clear hg4)))
  go_ret;exact ⟨0,rfl,HG4.out⟩
theorem Y26 (k:Bool) (c:Nat) (w:World):(method 476 (Yb8 k) (.pointer (some ⟨c,0,none⟩)) "Checkpoint").run prog w=.ok (274,.pointer (some ⟨c,0,none⟩)) w:=by
 cases k <;> kernel_rfl
theorem Y27 (k:Bool) (b0 a kb:Nat) (w:World) (R:Int→World→Prop) (h0:w.cell? ⟨b0,0,none⟩=some (.pointer (some ⟨a,0,none⟩))) (ca:w.cell? ⟨a,2,none⟩=some (.iface (Yb8 k) (.pointer (some ⟨kb,0,none⟩))))
 (KC:Calls prog 274 #[.pointer (some ⟨kb,0,none⟩)] w fun e w'=>∃ x,e=.returned (.int .i64 x)∧R x w'):
 Calls prog 54 #[.pointer (some ⟨b0,0,none⟩)] w fun e w'=>∃ x,e=.returned (.int .i64 x)∧R x w':=by
 have HKC:=Yh KC
 have hme:=Y26 k kb
 clear KC
 cases k with
 | true=>
  simp only [Yb8] at ca hme;go_enter func54,ntmps54;go_wp2_with (first
   | (go_at_call 274;go_must (
    refine HKC.out.mono ?_;rintro e w1 ⟨x,rfl,hr⟩;have HR:=Yh hr;clear hr)))
  go_ret;exact ⟨x,rfl,HR.out⟩
 | false=>
  simp only [Yb8] at ca hme;go_enter func54,ntmps54;go_wp2_with (first
   | (go_at_call 274;go_must (
    refine HKC.out.mono ?_;rintro e w1 ⟨x,rfl,hr⟩;have HR:=Yh hr;clear hr)))
  go_ret;exact ⟨x,rfl,HR.out⟩
theorem Y28 (k:Bool) (h:Yan w s) (a:Nat) (haw:a<w.heap.size) (ca:w.cell? ⟨a,2,none⟩=some (.iface (Yb8 k) (.pointer (some ⟨s.kb,0,none⟩)))) (Q:Int→Sv→Prop)
 (KC:∀ W,Below w.heap.size w W→Calls prog 274 #[.pointer (some ⟨s.kb,0,none⟩)] W fun e w'=>∃ x,e=.returned (.int .i64 x)∧∃ s',Q x s'∧Yab W w' s s'):
 Calls prog 32 #[.pointer (some ⟨a,0,none⟩)] w fun e w'=>∃ x s',e=.returned (.int .i64 x)∧Q x s'∧Yab w w' s s':=by
 obtain ⟨W3,hW3⟩:∃ W3,W3=w.alloc (.cells #[.pointer (some ⟨a,0,none⟩)] 26):=⟨_,rfl⟩
 have hz:W3.heap.size=w.heap.size+1:=by rw [hW3];simp
 have hb3:Below w.heap.size w W3:=by rw [hW3];exact (Below.refl _ w).alloc (Nat.le_refl _) _
 have g0:W3.heap[w.heap.size]? = some (.cells #[.pointer (some ⟨a,0,none⟩)] 26 (0,0)):=by rw [hW3];exact heap_alloc_new _ _
 have ca3:W3.cell? ⟨a,2,none⟩=some (.iface (Yb8 k) (.pointer (some ⟨s.kb,0,none⟩))):=(hb3.cell haw).trans ca
 have KA:Hid (Calls prog 53 #[.pointer (some ⟨a,0,none⟩),.func (.func 54) #[] #[.pointer (some ⟨w.heap.size,0,none⟩)]] W3 fun e w'=>∃ x s',e=.returned (.int .i64 x)∧Q x s'∧Yab w w' s s'):=by
  refine (Ymz a (Yb8 k) _ 54 _ W3 (fun x w'=>∃ W s',Below w.heap.size w W∧W.heap.size=W3.heap.size+2∧Q x s'∧Yab W w' s s') ca3 ?_ (fun args w=>rfl)).mono ?_
  ·intro o1 o2
   have hb5:Below W3.heap.size W3 (W3.alloc o1):=(Below.refl _ W3).alloc (Nat.le_refl _) _;have hb6:Below W3.heap.size W3 ((W3.alloc o1).alloc o2):=hb5.alloc (by simp) _;have hbw:Below w.heap.size w ((W3.alloc o1).alloc o2):=hb3.trans (hb6.mono (by omega));have k0:((W3.alloc o1).alloc o2).cell? ⟨w.heap.size,0,none⟩=some (.pointer (some ⟨a,0,none⟩)):=(hb6.cell (by show w.heap.size<W3.heap.size;omega)).trans (Yaa (j:=0) g0 rfl);have k1:((W3.alloc o1).alloc o2).cell? ⟨a,2,none⟩=some (.iface (Yb8 k) (.pointer (some ⟨s.kb,0,none⟩))):=(hb6.cell (by show a<W3.heap.size;omega)).trans ca3;refine (Y27 k w.heap.size a s.kb _ _ k0 k1 (KC _ hbw)).mono ?_;rintro e w' ⟨x,rfl,s',h1,h2⟩;refine ⟨x,rfl,?_,_,s',hbw,by simp,h1,h2⟩;exact ((h2.own h (q:=W3.heap.size+1) (by omega) (by simp)).1).trans (by simpa using heap_alloc_new (W3.alloc o1) o2)
  ·rintro e w' ⟨x,w1,rfl,⟨W,s',h1,h2,h3,h4⟩,rfl⟩
   refine ⟨x,s',rfl,h3,Yab.wrap h h1 h4 (fun q _ hq=>?_) ((Below.refl _ _).setCell (p:=⟨W3.heap.size+1,0,none⟩) (by simp) _)⟩;exact Below.heap_setCell _ _ _ _ (by show q≠W3.heap.size+1;omega)
 clear KC h ca ca3 g0 hb3
 have hmf:∀ (fn:Fn) (first cap:Array Value) (w:World),(Instr.makeFunc fn first cap).run prog w=.ok (.func fn first cap) w:=fun _ _ _ _=>rfl
 subst hW3
 generalize Yab w=GO at KA ⊢
 go_enter func32,ntmps32
 go_wp2_with (first
  | (go_at_call 53;go_must (
   refine KA.out.mono ?_;rintro e w1 ⟨x,s',rfl,h1,h2⟩;have HX:Hid (Q x s'∧GO w1 s s'):=⟨h1,h2⟩;clear h1 h2)))
 go_ret
 exact ⟨x,s',rfl,HX.out⟩
def Sp.check (P:Sp):Sp:={ P with acts:=P.acts+1,log:=P.log ++ [Ydq] }
theorem Y29 (h:Wf k P) (ha:P.acts<120):Wf k P.check:=by
 refine ⟨h.fut,h.pos,h.one,h.nrm,h.rd,fun t p hp=>?_,fun hk t p hp=>?_,h.bare,?_,by show P.acts+1≤120;omega,by have:=h.nx;show P.next≤P.acts+1;omega,h.ksz⟩
 ·have:=h.last t p hp
  show p.last≤(P.log ++ [Ydq]).length;simp;omega
 ·obtain ⟨h0,h1⟩:=h.ups hk t p hp
  exact ⟨h0.more _,h1⟩
 ·have:=h.cost
  show (P.log ++ [Ydq]).length+Ydu P.tx P.next≤2*(P.acts+1);simp;omega
theorem Y3a (h:Rel k s P) (ha:P.acts<120) (c:Yoz s s'):Rel k s' P.check:=by
 obtain ⟨⟨c1,c2,c3,c4⟩,⟨c5,c6⟩,c7,c8,c9⟩:=c;refine ⟨Y29 h.wf ha,fun t ht=>by rw [c8];exact h.tx0 t ht,fun t p hp=>by rw [c8];exact h.tx1 t p hp,⟨by rw [c2];exact h.nums.1,by rw [c3,h.nums.2.1];rfl,by rw [c4,h.nums.2.2];rfl⟩,by rw [c5];exact h.cnt,by unfold Ygd;rw [c7];exact h.buck,fun hk=>by rw [c7];exact h.steal hk,fun hk=>?_⟩;obtain ⟨⟨md,h1⟩,h2,h3,h4⟩:=h.beside hk;refine ⟨⟨md,by rw [c6];exact h1.made,by rw [c9];exact h1.have',by rw [c9];exact h1.lack,fun t m hm=>?_,by have:=h1.num;omega⟩,by rw [c9];exact h2,fun t p hp=>?_,by rw [c7];exact h4⟩
 ·rw [c9] at hm
  exact ⟨(h1.cells t m hm).1,by have:=(h1.cells t m hm).2;omega⟩
 ·obtain ⟨h5,h6⟩:=h3 t p hp
  refine ⟨fun key=>?_,fun m hm=>h6 m (by rw [←c9];exact hm)⟩;rw [←h5 key];unfold Sv.own;rw [c9]
def Yed (P:Sp):Int:=if 120≤P.acts then 10 else 0
theorem Y3b (S:Yb6 w a k P X q):
 Calls prog 32 #[.pointer (some ⟨a,0,none⟩)] w fun e w'=>e=.returned (.int .i64 (Yed P))∧((Yed P=0∧Ycv w w' a k P.check X q)∨(Yed P≠0∧Ycv w w' a k P X q)):=by
 obtain ⟨s,L,R,hX⟩:=S
 have hsl:=R.slen L.good
 have hcost:=R.wf.cost
 have hacts:=R.wf.acts
 have hnn:=R.nums.2.1
 have hne:∀ n,n<8→∀ q∈s.cont n,1≤q.1.size:=fun n hn q' hq'=>by
  obtain ⟨_,h1⟩:=(R.keptTaken n hn q'.1).1 (.inl ⟨q',hq',rfl⟩);rcases h1 with h1 | ⟨t,p,hp,h1⟩
  ·exact (R.wf.ksz.1 _ h1).1
  ·exact (R.wf.ksz.2 t p _ hp h1).1
 refine (Y28 k L.lies a L.haw L.ca (fun x s'=>(120≤s.acts∧x=10∧s'=s)∨(s.acts<120∧x=0∧Yoz s s')) (fun W hW=>(Y25 (L.lies.below hW) L.good (by omega) hne).mono ?_)).mono ?_
 ·rintro e w' ⟨x,h1,h2⟩
  rcases h2 with ⟨h2,h3,rfl⟩ | ⟨h2,h3,s',h4,h5⟩
  ·exact ⟨x,h1,s,.inl ⟨h2,h3,rfl⟩,Yab.refl (L.lies.below hW) L.good⟩
  ·exact ⟨x,h1,s',.inr ⟨h2,h3,h4⟩,h5⟩
 ·rintro e w' ⟨x,s',rfl,h2,h3⟩
  rcases h2 with ⟨h2,rfl,rfl⟩ | ⟨h2,rfl,h4⟩
  ·have hc:Yed P=10:=by unfold Yed;rw [if_pos (by omega)]
   rw [hc];exact ⟨rfl,.inr ⟨by omega,Ydp L hX h3 L.held L.cap rfl R⟩⟩
  ·have hc:Yed P=0:=by unfold Yed;rw [if_neg (by omega)]
   rw [hc];refine ⟨rfl,.inl ⟨rfl,Ydp L hX h3 (fun t x hx=>L.held t x (by rw [←h4.parts.2.1];exact hx)) (fun n hn=>?_) h4.nums.1 (Y3a R (by omega) h4)⟩⟩;obtain ⟨l,l1,l2⟩:=L.cap n hn;refine ⟨l,l1,fun key hk=>l2 key ?_⟩;unfold Yfb at hk ⊢;rw [h4.parts.1,h4.parts.2.1] at hk;exact hk
def Yjj (t:TxV) (len j:Nat) (e:Yac):Yac:=⟨2,t.id,Yba t len j,e.prev,e.key,false,ByteArray.empty,e.oldIs,e.old⟩
def Ycd (t:TxV) (len:Nat) (es:List Yac):List Yac:=es.mapIdx fun j e=>Yjj t len j e
theorem Y3c (t:TxV) (len:Nat) (es:List Yac) (k:Nat) (h:k<es.length):Ycd t len (es.take (k+1))=Ycd t len (es.take k) ++ [Yjj t len k es[k]]:=by
 rw [Ycd,Ycd,List.take_succ_eq_append_getElem h,List.mapIdx_concat,List.length_take,Nat.min_eq_left (by omega)]
theorem Y3d (t:TxV) (len:Nat) (es:List Yac):(Ycd t len es).length=es.length:=by simp [Ycd]
def Yjk (t:TxV) (len:Nat) (es:List Yac):List Yac:=if es=[] then [] else Ycd t len es ++ [⟨4,t.id,Yba t len es.length,0,ByteArray.empty,false,ByteArray.empty,false,ByteArray.empty⟩]
structure Yg1 (log:List Yac) (U:List Int) (es:List Yac):Prop where
 len:es.length=U.length
 at':∀ k (h:k<U.length),1≤U[k]∧U[k]≤log.length∧∃ e,log[U[k].toNat - 1]? = some e∧es[U.length - 1 - k]? = some e∧e.prev=if h0:k=0 then 0 else U[k - 1]
theorem Yt1 (mb:Nat) (n:Ya0) (s:Ya4) (l:List (TxV×TxS)) (pairs other:Yaf) (log:List Yac) (t:Int) (i:Nat) (p:TxV×TxS) (w:World) (h:Yaq w mb n s l pairs other log) (hs:Yhd l pairs log) (hd:n.dead=false) (hf:Ya5 l t=some i) (hi:l[i]? = some p) (es:List Yac) (hU:Yg1 log p.1.updates es) (hlg:log.length≤5000) (hul:p.1.updates.length≤1000):
 Calls prog 97 #[.pointer (some ⟨mb,0,none⟩),.int .i64 t] w fun e w'=>e=.returned (.int .i64 0) ∧
  ∃ vt' vl',Yaq w' mb n { s with vt:=vt',vl:=vl' } (l.eraseIdx i) pairs other (log ++ Yjk p.1 log.length es)∧Ya9 w w' mb s { s with vt:=vt',vl:=vl' } l (l.eraseIdx i):=by
 have hil:i<l.length:=(List.getElem?_eq_some_iff.1 hi).1
 have hil':(i:Int)<(l.length:Int):=by omega
 have HH:=Yh h
 have HS:=Yh hs
 have HF:Hid (Ye7 (Ya5 l t)=(i:Int)):=by show _=_;rw [hf];rfl
 obtain ⟨g,cap,cur,hvt,hcur,hcell,hog,hgm⟩:=h.openBlock (by omega)
 have c1:w.cell? ⟨mb,1,none⟩=some (.bool false):=Yaa h.cell (by rw [←hd];rfl)
 have c5:w.cell? ⟨mb,5,none⟩=some (.slice (some ⟨g,0,none⟩) l.length cap):=by rw [←hvt];exact Yaa h.cell rfl
 have tw:=h.txs p (List.mem_of_getElem? hi)
 obtain ⟨N,hN⟩:∃ N,N=p.1.updates.length:=⟨_,rfl⟩
 obtain ⟨au,cu,hvu,_⟩:=Ya6 tw.2.2.1
 rw [←hN] at hvu hul
 have c4:w.cell? ⟨g,i*5+4,none⟩=some (.slice au N cu):=by
  have:=Yaa hcur (hcell _ _ (Yb4 l i p hi 4 _ rfl));rw [this,hvu]
 have HVU:=Yh hvu
 have HUP:Hid (Yg1 log p.1.updates es∧N=p.1.updates.length):=⟨hU,hN⟩
 have hesl:es.length=N:=by rw [hU.len,hN]
 have hself:l.set i p=l:=by
  obtain ⟨h1,h2⟩:=List.getElem?_eq_some_iff.1 hi;rw [←h2];exact List.set_getElem_self h1
 have HSELF:Hid (l.set i ({ p.1 with last:=Yba p.1 log.length 0 },p.2)=l):=hself
 have hmw:mb<w.heap.size:=h.lt .mod mb rfl
 have hgw:g<w.heap.size:=h.lt .opn g hog
 have HG:=Yh hvt
 have HMS:Hid (Ya9 w w mb s s l l):=Ya9.of_below h (Below.refl _ _)
 clear h hs hvt hcur hcell hog tw hvu hf hd hU hN hself hgm
 go_enter func97,ntmps97
 go_wp2_with (first
  | (go_at_call 133;go_must (
   refine (Yer mb n s l t w HH.out.cell HH.out.opn (by have:=HS.out.opn;omega)).mono ?_;rw [HF.out];rintro e w' ⟨rfl,rfl⟩)))
 clear c1 c5 c4
 go_loopw [7] (fun iv wr=>∃ m:Nat,m≤N∧iv=.int .i64 ((m:Int) - 1)∧∃ vl',Yaq wr mb n { s with vl:=vl' } (l.set i ({ p.1 with last:=Yba p.1 log.length (N - m) },p.2)) pairs other (log ++ Ycd p.1 log.length (es.take (N - m)))∧Ya9 w wr mb s { s with vl:=vl' } l (l.set i ({ p.1 with last:=Yba p.1 log.length (N - m) },p.2))) (fun iv _=>(intOf iv+1).toNat)
 case atStart=>
  refine ⟨N,Nat.le_refl _,rfl,s.vl,?_,?_⟩
  ·rw [Nat.sub_self,HSELF.out];simpa [Ycd] using HH.out
  ·rw [Nat.sub_self,HSELF.out];exact HMS.out
 case round=>
  obtain ⟨m,hm,rfl,vl',M0,S0⟩:=hrel;obtain ⟨j,hj⟩:∃ j,j=N - m:=⟨_,rfl⟩;rw [←hj] at M0 S0;have hjle:j≤N:=by omega
  have HM0:=Yh M0;have HS0:=Yh S0;have hi0:(l.set i (({ p.1 with last:=Yba p.1 log.length j },p.2):TxV×TxS))[i]? = some ({ p.1 with last:=Yba p.1 log.length j },p.2):=by rw [List.getElem?_set_self hil]
  obtain ⟨g',cap',cur',hvt',hcur',hcell',hog',hgm'⟩:=M0.openBlock (by rw [List.length_set];omega);obtain rfl:g=g':=by
   have h1:=HG.out;simp only at hvt';rw [hvt'] at h1;simp at h1;exact h1.1.symm
  have HG0:Hid (wr.heap[g]? = some (.cells cur' 200 (0,0))∧s.vt=.slice (some ⟨g,0,none⟩) (l.set i (({ p.1 with last:=Yba p.1 log.length j },p.2):TxV×TxS)).length cap'∧(∀ (j':Nat) u,(Ya2 (l.set i (({ p.1 with last:=Yba p.1 log.length j },p.2):TxV×TxS)))[j']? = some u→cur'[j']? = some u)∧Yai mb { s with vl:=vl' } (l.set i (({ p.1 with last:=Yba p.1 log.length j },p.2):TxV×TxS)) .opn=some g∧g≠mb):=⟨hcur',hvt',hcell',hog',hgm'⟩;have HI0:=Yh hi0;have d4:wr.cell? ⟨g,i*5+4,none⟩=some (.slice au N cu):=by
   have:=Yaa hcur' (hcell' _ _ (Yb4 _ i _ hi0 4 _ rfl));rw [this,HVU.out]
  have hmw0:mb<wr.heap.size:=M0.lt .mod mb rfl;have hgw0:g<wr.heap.size:=M0.lt .opn g hog';have hll:(log ++ Ycd p.1 log.length (es.take j)).length=log.length+j:=by rw [List.length_append,Y3d,List.length_take];omega
  obtain ⟨al,cl,hvl,_⟩:=Ya6 M0.lg;have d8:wr.cell? ⟨mb,8,none⟩=some (.slice al (log.length+j) cl):=by
   have h1:wr.cell? ⟨mb,8,none⟩=some vl':=Yaa M0.cell rfl;rw [h1,←hll];exact congrArg some hvl
  cases m with
  | succ k=>
   have hk:k<p.1.updates.length:=by have:=HUP.out.2;omega
   obtain ⟨u1,u2,e,u3,u4,u5⟩:=HUP.out.1.at' k hk;have hjk:N - 1 - k=j:=by omega
   rw [←HUP.out.2,hjk] at u4;have hje:j<es.length:=(List.getElem?_eq_some_iff.1 u4).1;have hej:es[j]=e:=by rw [List.getElem?_eq_getElem hje] at u4;simpa using u4
   have hup:wr.ownsRow 0 3 1 (.slice au N cu) N (p.1.updates.map (Value.int .i64)):=by
    have:=(M0.txs _ (List.mem_of_getElem? hi0)).2.2.1;simp only [HVU.out,←HUP.out.2] at this;exact this
   obtain ⟨gu,cu',he⟩:=Ybn hup (by omega);simp only [Value.slice.injEq] at he;obtain ⟨rfl,-,rfl⟩:=he;have b0:wr.cell? ⟨gu,k,none⟩=some (.int .i64 p.1.updates[k]):=Yal hup (by rw [List.getElem?_map,List.getElem?_eq_getElem hk];rfl);have b1:k≠0→wr.cell? ⟨gu,k - 1,none⟩=some (.int .i64 e.prev):=fun h0=>by
    rw [u5,dif_neg h0];exact Yal hup (by rw [List.getElem?_map,List.getElem?_eq_getElem (by omega)];rfl)
   have e0:k=0→e.prev=0:=fun h0=>by rw [u5,dif_pos h0]
   obtain ⟨x,hx⟩:∃ x:Nat,p.1.updates[k]=(x:Int)+1:=⟨p.1.updates[k].toNat - 1,by omega⟩;rw [hx] at b0 u3 u2;have hxl:x<log.length:=by omega
   have hlr:wr.ownsRow 0 152 9 (.slice al (log.length+j) cl) (log.length+j) (Ybf (log ++ Ycd p.1 log.length (es.take j))):=by
    have:=M0.lg;rw [hll] at this;have h2:vl'=.slice al (log.length+j) cl:=by rw [←hll];exact hvl
    rw [←h2];exact this
   obtain ⟨gl,cl',he⟩:=Ybn hlr (by omega);simp only [Value.slice.injEq] at he;obtain ⟨rfl,-,rfl⟩:=he;have hget:(log ++ Ycd p.1 log.length (es.take j))[x]? = some e:=by
    rw [List.getElem?_append_left hxl];have:((x:Int)+1).toNat - 1=x:=by omega
    rw [this] at u3;exact u3
   have a0:=Yal hlr (Ybx _ x _ hget 0 (.int .i64 e.kind) rfl);have a1:=Yal hlr (Ybx _ x _ hget 1 (.int .i64 e.tx) rfl);have a2:=Yal hlr (Ybx _ x _ hget 2 (.int .i64 e.prev) rfl);have a3:=Yal hlr (Ybx _ x _ hget 3 (.int .i64 e.next) rfl);have a4:=Yal hlr (Ybx _ x _ hget 4 (.string e.key) rfl);have a5:=Yal hlr (Ybx _ x _ hget 5 (.bool e.oldIs) rfl);have a6:=Yal hlr (Ybx _ x _ hget 6 (.string e.old) rfl);have a7:=Yal hlr (Ybx _ x _ hget 7 (.bool e.newIs) rfl);have a8:=Yal hlr (Ybx _ x _ hget 8 (.string e.new) rfl);rw [Nat.add_zero] at a0;have HSn:Hid (Ycd p.1 log.length (es.take (j+1))=Ycd p.1 log.length (es.take j) ++ [Yjj p.1 log.length j e]):=by rw [←hej];exact Y3c p.1 log.length es j hje
   have hx1:((x:Int)+1 - 1)=(x:Int):=by omega
   obtain ⟨LL,hLL⟩:∃ LL,LL=log.length+j:=⟨_,rfl⟩;rw [←hLL] at d8;have hxl':(x:Int)<(LL:Int):=by omega
   have hx0:(0:Int)≤(x:Int):=by omega
   have HLL:=Yh hLL;clear hLL;have hxw:IntKind.i64.wrap (x:Int)=(x:Int):=by rw [IntKind.wrap_i64];omega
   have hkN:(k:Int)<(N:Int):=by omega
   have hjn:N - k=j+1:=by omega
   have hk1:(((k+1:Nat):Int) - 1)=(k:Int):=by omega
   have HJN:=Yh hjn;rw [hk1];clear M0 S0 hi0 hvt' hcur' hcell' hog' hgm' hup hlr hget hvl u1 u2 u3 u4 u5 hj hk hej hje hx hjk hm hk1 hjn;obtain ⟨kind,tx,prev,next,key,oldIs,old,newIs,new⟩:=e;simp only at a0 a1 a2 a3 a4 a5 a6 a7 a8 b1 e0;go_upto_region 10 with fail
   have n1:wr.heap.size≠mb:=by omega
   have n2:wr.heap.size≠g:=by omega
   have n3:wr.heap.size≠gu:=World.new_ne wr _ b0;have n4:wr.heap.size≠gl:=World.new_ne wr _ a1;go_region_held3 (fun w'=>w'.cell? ⟨mb,8,none⟩=some (.slice (some ⟨gl,0,none⟩) LL cl)∧w'.cell? ⟨g,i*5+4,none⟩=some (.slice (some ⟨gu,0,none⟩) N cu)∧w'.cell? ⟨gu,k,none⟩=some (.int .i64 ((x:Int)+1))∧w'.cell? ⟨gl,x*9,none⟩=some (.int .i64 kind)∧w'.cell? ⟨gl,x*9+1,none⟩=some (.int .i64 tx)∧w'.cell? ⟨gl,x*9+2,none⟩=some (.int .i64 prev)∧w'.cell? ⟨gl,x*9+3,none⟩=some (.int .i64 next)∧w'.cell? ⟨gl,x*9+4,none⟩=some (.string key)∧w'.cell? ⟨gl,x*9+5,none⟩=some (.bool oldIs)∧w'.cell? ⟨gl,x*9+6,none⟩=some (.string old)∧w'.cell? ⟨gl,x*9+7,none⟩=some (.bool newIs)∧w'.cell? ⟨gl,x*9+8,none⟩=some (.string new))
    (go_keep)
    (fail)
   all_goals
    obtain ⟨W3,hW3⟩:∃ W3,W3=(wr.alloc (.cells #[.int .i64 kind,.int .i64 tx,.int .i64 prev,.int .i64 next,.string key,.bool oldIs,.string old,.bool newIs,.string new] 152)).drew:=⟨_,rfl⟩;rw [←hW3];have hB3:Below wr.heap.size wr W3:=by rw [hW3];exact ((Below.refl _ _).alloc (Nat.le_refl _) _).drew
    have hN3:W3.heap[wr.heap.size]? = some (.cells #[.int .i64 kind,.int .i64 tx,.int .i64 prev,.int .i64 next,.string key,.bool oldIs,.string old,.bool newIs,.string new] 152 (0,0)):=by rw [hW3];exact heap_alloc_new wr _
    have q4:W3.cell? ⟨wr.heap.size,4,none⟩=some (.string key):=Yaa hN3 rfl;have q5:W3.cell? ⟨wr.heap.size,5,none⟩=some (.bool oldIs):=Yaa hN3 rfl;have q6:W3.cell? ⟨wr.heap.size,6,none⟩=some (.string old):=Yaa hN3 rfl;have r4:W3.cell? ⟨g,i*5+4,none⟩=some (.slice (some ⟨gu,0,none⟩) N cu):=(hB3.cell hgw0).trans d4;have r1:k≠0→W3.cell? ⟨gu,k - 1,none⟩=some (.int .i64 prev):=fun h0=>(hB3.cell (World.block_lt_of_cell? wr _ (b1 h0))).trans (b1 h0)
    have HMX:Hid (Yaq W3 mb n { s with vl:=vl' } (l.set i (({ p.1 with last:=Yba p.1 log.length j },p.2):TxV×TxS)) pairs other (log ++ Ycd p.1 log.length (es.take j))):=HM0.out.below hB3;have HB3:=Yh hB3;have HN3:=Yh hN3;have HCL:Hid (∀ W,Ya9 W3 W mb { s with vl:=vl' } { s with vl:=vl' } l l→True):=fun _ _=>trivial
    clear hW3 hB3 hN3 a0 a1 a2 a3 a4 a5 a6 a7 a8 b0 b1 d4 d8 HCL;have hkz:k=0∨k≠0:=by omega
    rcases hkz with h0 | h0
    ·have hp0:=e0 h0
     subst h0;clear r1 e0;go_wp2_with (first
      | (go_at_call 137;go_must (
       refine (Yhb mb g (i*5) n { s with vl:=vl' } cur' (log ++ Ycd p.1 log.length (es.take j)) p.1.id (Yba p.1 log.length j) ⟨2,0,0,0,key,false,ByteArray.empty,oldIs,old⟩ W3 HMX.out.cell ((HB3.out.block g hgw0).trans HG0.out.1) (HG0.out.2.2.1 _ _ (Yb4 _ i _ HI0.out 0 _ rfl)) (HG0.out.2.2.1 _ _ (Yb4 _ i _ HI0.out 1 _ rfl)) HMX.out.lg (by rw [hll];omega) (Ne.symm HG0.out.2.2.2.2) (fun e=>?hlm) (fun e=>?hlo)).mono ?_
       case hlm=>have:=HMX.out.apart .lg .mod mb e rfl;cases this
       case hlo=>have:=HMX.out.apart .lg .opn g e HG0.out.2.2.2.1;cases this
       rintro e w7 ⟨rfl,hna⟩;obtain ⟨vl2,M7,S7⟩:=Yhc HMX.out HI0.out HG0.out.2.1 ((HB3.out.block g hgw0).trans HG0.out.1) hna;have hlast:(((log ++ Ycd p.1 log.length (es.take j)).length:Nat):Int)+1=Yba p.1 log.length (j+1):=by
        rw [hll];simp [Yba];omega
       have hent:log ++ Ycd p.1 log.length (es.take (j+1))=log ++ Ycd p.1 log.length (es.take j) ++ [⟨2,p.1.id,Yba p.1 log.length j,0,key,false,ByteArray.empty,oldIs,old⟩]:=by
        rw [HSn.out,List.append_assoc];simp only [Yjj,hp0]
       have M7a:=M7;have S7a:=(HS0.out.trans (Ya9.of_below HM0.out HB3.out)).trans S7;rw [List.set_set,hlast,←hent] at M7a;rw [List.set_set,hlast] at S7a;have HM7:=Yh M7a;have HS7:=Yh S7a;clear hna M7 S7 M7a S7a hlast hent)))
     refine ⟨⟨0,by omega,by simp,vl2,?_,?_⟩,by simp [intOf]⟩
     ·rw [HJN.out];exact HM7.out
     ·rw [HJN.out];exact HS7.out
    ·have hr1:=r1 h0
     clear r1 e0;obtain ⟨k',rfl⟩:∃ k',k=k'+1:=⟨k - 1,by omega⟩;rw [Nat.add_sub_cancel] at hr1;have hkN':(k':Int)<(N:Int):=by omega
     go_wp2_with (first
      | (go_at_call 137;go_must (
       refine (Yhb mb g (i*5) n { s with vl:=vl' } cur' (log ++ Ycd p.1 log.length (es.take j)) p.1.id (Yba p.1 log.length j) ⟨2,0,0,prev,key,false,ByteArray.empty,oldIs,old⟩ W3 HMX.out.cell ((HB3.out.block g hgw0).trans HG0.out.1) (HG0.out.2.2.1 _ _ (Yb4 _ i _ HI0.out 0 _ rfl)) (HG0.out.2.2.1 _ _ (Yb4 _ i _ HI0.out 1 _ rfl)) HMX.out.lg (by rw [hll];omega) (Ne.symm HG0.out.2.2.2.2) (fun e=>?hlm) (fun e=>?hlo)).mono ?_
       case hlm=>have:=HMX.out.apart .lg .mod mb e rfl;cases this
       case hlo=>have:=HMX.out.apart .lg .opn g e HG0.out.2.2.2.1;cases this
       rintro e w7 ⟨rfl,hna⟩;obtain ⟨vl2,M7,S7⟩:=Yhc HMX.out HI0.out HG0.out.2.1 ((HB3.out.block g hgw0).trans HG0.out.1) hna;have hlast:(((log ++ Ycd p.1 log.length (es.take j)).length:Nat):Int)+1=Yba p.1 log.length (j+1):=by
        rw [hll];simp [Yba];omega
       have hent:log ++ Ycd p.1 log.length (es.take (j+1))=log ++ Ycd p.1 log.length (es.take j) ++ [⟨2,p.1.id,Yba p.1 log.length j,prev,key,false,ByteArray.empty,oldIs,old⟩]:=by
        rw [HSn.out,List.append_assoc];simp only [Yjj]
       have M7a:=M7;have S7a:=(HS0.out.trans (Ya9.of_below HM0.out HB3.out)).trans S7;rw [List.set_set,hlast,←hent] at M7a;rw [List.set_set,hlast] at S7a;have HM7:=Yh M7a;have HS7:=Yh S7a;clear hna M7 S7 M7a S7a hlast hent)))
     refine ⟨⟨k'+1,by omega,by simp,vl2,?_,?_⟩,by simp [intOf];omega⟩
     ·rw [HJN.out];exact HM7.out
     ·rw [HJN.out];exact HS7.out
  | zero=>
   have hjN:j=N:=by omega
   subst hjN;have htk:es.take j=es:=List.take_of_length_le (by omega);rw [htk] at HM0 hll;clear M0 S0 hi0 hvt' hcur' hcell' hog' hgm' hvl hj hm d8 htk;rw [show (((0:Nat):Int) - 1) = -1 from rfl];by_cases h0:j=0
   ·subst h0
    have hes:es=[]:=List.length_eq_zero_iff.1 hesl;have HES:=Yh hes;have HMZ:Hid (Yaq wr mb n { s with vl:=vl' } (l.set i (({ p.1 with last:=Yba p.1 log.length 0 },p.2):TxV×TxS)) pairs other log):=by
     have:=HM0.out;rw [hes] at this;simp only [Ycd,List.mapIdx_nil,List.append_nil] at this;exact this
    clear hes;go_wp2_with (first
     | (go_at_call 139;go_must (
      have hv:=HMZ.out;refine (Yj1 mb n _ (l.set i (({ p.1 with last:=Yba p.1 log.length 0 },p.2):TxV×TxS)) _ other log i wr hv (by rw [List.length_set];exact hil) (by rw [List.length_set];have:=HS.out.opn;omega)).mono ?_;rintro e w4 ⟨v4,rfl,ho4,hb4⟩;obtain ⟨a4,k4,rfl,_⟩:=Ya6 ho4;have hm4:=(hb4.block mb (hv.lt .mod mb rfl)).trans hv.cell;have e5:w4.cell? ⟨mb,5,none⟩=some s.vt:=Yaa hm4 rfl;have f5:=Yah 5 hm4;have hgn:∀ q,(Value.slice a4 ((l.set i (({ p.1 with last:=Yba p.1 log.length 0 },p.2):TxV×TxS)).eraseIdx i).length k4).ownBlock=some q→q≠mb:=fun q hq e=>by
       have:=(ho4.lt q hq).1;have:=hv.lt .mod mb rfl;omega
      have hov:=Yj2 (i:=i) (w':=w4.setCell ⟨mb,5,none⟩ (.slice a4 ((l.set i (({ p.1 with last:=Yba p.1 log.length 0 },p.2):TxV×TxS)).eraseIdx i).length k4)) (vp':=s.vp) (vt':=.slice a4 ((l.set i (({ p.1 with last:=Yba p.1 log.length 0 },p.2):TxV×TxS)).eraseIdx i).length k4) (pairs':=pairs) hv ((Yak _ _ 5 _ _ _ hm4).trans rfl) (fun k h1 h2=>(Below.heap_setCell _ _ _ _ h2).trans (hb4.block k h1))
       (Yas hv.prs (fun k hk=>(Below.heap_setCell _ _ _ _ (fun e=>(hv.imm .mod mb rfl).1 (by have e':k=mb:=e;rw [←e'];exact hk))).trans (hb4.block k (hv.prs.lt k hk).2)))
       (.inl rfl)
       (Yas ho4 (fun q hq=>Below.heap_setCell _ _ _ _ (hgn q hq)))
       (fun q h1 h2=>by have:=(hv.prs.lt q h1).2;omega)
       ((hb4.mono (Nat.zero_le _)).setCell (p:=⟨mb,5,none⟩) (by simp) _)
      have HFIN:=Yh (And.intro hov.1 (HS0.out.trans hov.2));clear hv ho4 hb4 hm4 hgn hov)))
    go_ret;have hfa:=HFIN.out;rw [List.eraseIdx_set_eq] at hfa;refine ⟨rfl,?_⟩;rw [Yjk,if_pos HES.out,List.append_nil,List.eraseIdx_set_eq];exact ⟨_,vl',hfa⟩
   ·have hgt:(0:Int)<(j:Int):=by omega
    go_wp2_with (first
     | (go_at_call 137;go_must (
      refine (Yhb mb g (i*5) n { s with vl:=vl' } cur' (log ++ Ycd p.1 log.length es) p.1.id (Yba p.1 log.length j) ⟨4,0,0,0,ByteArray.empty,false,ByteArray.empty,false,ByteArray.empty⟩ wr HM0.out.cell HG0.out.1 (HG0.out.2.2.1 _ _ (Yb4 _ i _ HI0.out 0 _ rfl)) (HG0.out.2.2.1 _ _ (Yb4 _ i _ HI0.out 1 _ rfl)) HM0.out.lg (by rw [hll];omega) (Ne.symm HG0.out.2.2.2.2) (fun e=>?hlm) (fun e=>?hlo)).mono ?_
      case hlm=>have:=HM0.out.apart .lg .mod mb e rfl;cases this
      case hlo=>have:=HM0.out.apart .lg .opn g e HG0.out.2.2.2.1;cases this
      rintro e w7 ⟨rfl,hna⟩;obtain ⟨vl2,M7,S7⟩:=Yhc HM0.out HI0.out HG0.out.2.1 HG0.out.1 hna;rw [List.set_set] at M7 S7;have HT:=Yh M7;have HST:=Yh (HS0.out.trans S7);clear hna M7 S7))
     | (go_at_call 139;go_must (
      have hv:=HT.out;refine (Yj1 mb n _ (l.set i (({ p.1 with last:=((log ++ Ycd p.1 log.length es).length:Int)+1 },p.2):TxV×TxS)) _ other (log ++ Ycd p.1 log.length es ++ [⟨4,p.1.id,Yba p.1 log.length j,0,ByteArray.empty,false,ByteArray.empty,false,ByteArray.empty⟩]) i w7 hv (by rw [List.length_set];exact hil) (by rw [List.length_set];have:=HS.out.opn;omega)).mono ?_;rintro e w4 ⟨v4,rfl,ho4,hb4⟩;obtain ⟨a4,k4,rfl,_⟩:=Ya6 ho4;have hm4:=(hb4.block mb (hv.lt .mod mb rfl)).trans hv.cell;have e5:w4.cell? ⟨mb,5,none⟩=some s.vt:=Yaa hm4 rfl;have f5:=Yah 5 hm4;have hgn:∀ q,(Value.slice a4 ((l.set i (({ p.1 with last:=((log ++ Ycd p.1 log.length es).length:Int)+1 },p.2):TxV×TxS)).eraseIdx i).length k4).ownBlock=some q→q≠mb:=fun q hq e=>by
       have:=(ho4.lt q hq).1;have:=hv.lt .mod mb rfl;omega
      have hov:=Yj2 (i:=i) (w':=w4.setCell ⟨mb,5,none⟩ (.slice a4 ((l.set i (({ p.1 with last:=((log ++ Ycd p.1 log.length es).length:Int)+1 },p.2):TxV×TxS)).eraseIdx i).length k4)) (vp':=s.vp) (vt':=.slice a4 ((l.set i (({ p.1 with last:=((log ++ Ycd p.1 log.length es).length:Int)+1 },p.2):TxV×TxS)).eraseIdx i).length k4) (pairs':=pairs) hv ((Yak _ _ 5 _ _ _ hm4).trans rfl) (fun k h1 h2=>(Below.heap_setCell _ _ _ _ h2).trans (hb4.block k h1))
       (Yas hv.prs (fun k hk=>(Below.heap_setCell _ _ _ _ (fun e=>(hv.imm .mod mb rfl).1 (by have e':k=mb:=e;rw [←e'];exact hk))).trans (hb4.block k (hv.prs.lt k hk).2)))
       (.inl rfl)
       (Yas ho4 (fun q hq=>Below.heap_setCell _ _ _ _ (hgn q hq)))
       (fun q h1 h2=>by have:=(hv.prs.lt q h1).2;omega)
       ((hb4.mono (Nat.zero_le _)).setCell (p:=⟨mb,5,none⟩) (by simp) _)
      have HFIN:=Yh (And.intro hov.1 (HST.out.trans hov.2));clear hv ho4 hb4 hm4 hgn hov)))
    go_ret;have hfa:=HFIN.out;rw [List.eraseIdx_set_eq] at hfa;refine ⟨rfl,?_⟩;rw [Yjk,if_neg (fun e=>h0 (by rw [e] at hesl;simpa using hesl.symm)),hesl,←List.append_assoc,List.eraseIdx_set_eq];exact ⟨_,vl2,hfa⟩
theorem Yo0 {α:Type} {R:α→α→Prop} (irr:∀ a b,R a b→R b a→False):∀ {l1 l2:List α},l1.Pairwise R→l2.Pairwise R→(∀ x,x∈l1↔x∈l2)→l1=l2
 | [],[],_,_,_=>rfl
 | [],b :: r,_,_,h=>by have:=(h b).2 (by simp);cases this
 | a :: r,[],_,_,h=>by have:=(h a).1 (by simp);cases this
 | a :: r1,b :: r2,h1,h2,h=>by
  rw [List.pairwise_cons] at h1 h2;have hab:a=b:=by
   rcases List.mem_cons.1 ((h a).1 (by simp)) with e | e
   ·exact e
   ·rcases List.mem_cons.1 ((h b).2 (by simp)) with e' | e'
    ·exact e'.symm
    ·exact (irr a b (h1.1 b e') (h2.1 a e)).elim
  subst hab;rw [Yo0 irr h1.2 h2.2 (fun x=>?_)];constructor
  ·intro hx
   rcases List.mem_cons.1 ((h x).1 (by simp [hx])) with e | e
   ·subst e;exact (irr x x (h1.1 x hx) (h1.1 x hx)).elim
   ·exact e
  ·intro hx
   rcases List.mem_cons.1 ((h x).2 (by simp [hx])) with e | e
   ·subst e;exact (irr x x (h2.1 x hx) (h2.1 x hx)).elim
   ·exact e
theorem Yt2 {a b:ByteArray} (h:blt a b) (k:blt b a):False:=Yir a (Yh0 h k)
theorem Yt3 (h:Ybi ps) (p:ByteArray×ByteArray):p∈ps↔Yag ps p.1=(true,p.2):=by
 constructor
 ·intro hp
  refine Yod (fun q hq e=>?_) ⟨p,hp,rfl⟩;have hn:=Yjb h;obtain ⟨i,hi⟩:=List.getElem?_of_mem hp;obtain ⟨j,hj⟩:=List.getElem?_of_mem hq;have hii:=(List.getElem?_eq_some_iff.1 hi);have hjj:=(List.getElem?_eq_some_iff.1 hj);obtain ⟨i1,i2⟩:=hii;obtain ⟨j1,j2⟩:=hjj;by_cases hij:i=j
  ·subst hij;rw [←i2,←j2]
  ·have:=h i j i1 j1
   have h2:=h j i j1 i1;rw [i2,j2] at this h2;rcases Nat.lt_or_gt_of_ne hij with h3 | h3
   ·exact absurd e.symm (Yej (this h3))
   ·exact absurd e (Yej (h2 h3))
 ·intro hu
  rcases Yl2 ps p.1 with ⟨q,hq,h1,h2⟩ | ⟨_,h2⟩
  ·rw [h2] at hu
   have:p=q:=Prod.ext h1.symm (by simpa using hu.symm);rw [this];exact hq
  ·rw [h2] at hu;simp at hu
theorem Y3e {qs:Yaf} (h1:Ybi ps) (h2:Ybi qs) (h:∀ key,Yag ps key=Yag qs key):ps=qs:=
 Yo0 (fun _ _=>Yt2) (Ygr.1 h1) (Ygr.1 h2) (fun p=>by rw [Yt3 h1,Yt3 h2,h])
theorem Yt4:∀ {l:List (TxV×TxS)} {t:Int} {i:Nat},Ya5 l t=some i→∃ q,l[i]? = some q∧q.1.id=t
 | [],_,_,h=>by cases h
 | p :: r,t,i,h=>by
  rw [Ya5] at h;split at h
  ·simp only [Option.some.injEq] at h
   subst h;rename_i he;exact ⟨p,rfl,he⟩
  ·rw [Option.map_eq_some_iff] at h
   obtain ⟨j,hj,rfl⟩:=h;obtain ⟨q,h1,h2⟩:=Yt4 hj;exact ⟨q,by simpa using h1,h2⟩
theorem Yjl:∀ {l:List (TxV×TxS)} {i:Nat} {q:TxV×TxS},(l.map (fun p=>p.1.id)).Nodup→l[i]? = some q→Ya5 l q.1.id=some i
 | [],_,_,_,h=>by simp at h
 | p :: r,0,q,_,h=>by simp at h;subst h;rw [Ya5,if_pos rfl]
 | p :: r,i+1,q,hn,h=>by
  simp only [List.map_cons,List.nodup_cons] at hn;have h':r[i]? = some q:=by simpa using h
  have hne:p.1.id≠q.1.id:=fun e=>hn.1 (by rw [e];exact List.mem_map.2 ⟨q,List.mem_of_getElem? h',rfl⟩)
  rw [Ya5,if_neg hne,Yjl hn.2 h'];rfl
structure TxA (k:Bool) (log:List Yac) (t:Int) (p:TxP) (q:TxV) (b:Nat):Prop where
 id:q.id=t
 last:q.last=(p.last:Int)
 wr:∀ key,Yb3 q.writes key=p.wrote key
 rd:∀ key,p.read key=if (q.read.any fun x=>decide (x=key)) then 1 else 0
 nd:(q.writes.map (·.1)).Nodup
 wl:q.writes.length≤p.n
 rl:q.read.length≤b
 ups:k=true→Yg1 log q.updates p.ups∧q.updates.getLastD 0=(p.last:Int)∧(p.last=0↔q.writes=[])
 bare:k=false→q.updates=[]
theorem Yg1.more {U:List Int} {es:List Yac} (h:Yg1 log U es) (x:List Yac):Yg1 (log ++ x) U es:=
 ⟨h.len,fun k hk=>by
  obtain ⟨h1,h2,e,h3,h4,h5⟩:=h.at' k hk;refine ⟨h1,by simp;omega,e,?_,h4,h5⟩;rw [List.getElem?_append_left (List.getElem?_eq_some_iff.1 h3).1];exact h3⟩
theorem TxA.more {q:TxV} (h:TxA k log t p q b) (x:List Yac):TxA k (log ++ x) t p q b:=
 ⟨h.id,h.last,h.wr,h.rd,h.nd,h.wl,h.rl,fun hk=>⟨(h.ups hk).1.more x,(h.ups hk).2⟩,h.bare⟩
theorem TxA.up {q:TxV} (h:TxA k log t p q b) (hc:b≤c):TxA k log t p q c:=
 ⟨h.id,h.last,h.wr,h.rd,h.nd,h.wl,by have:=h.rl;omega,h.ups,h.bare⟩
structure Ybw (k:Bool) (P:Sp) (n:Ya0) (l:List (TxV×TxS)) (pairs:Yaf) (log:List Yac) (b:Nat):Prop where
 mode:n.mode=if k then 0 else 1
 dead:n.dead=false
 nums:n.given=(P.next:Int)∧n.actions=(P.acts:Int)
 log:log=P.log
 rise:Ybi pairs
 comm:∀ key,Yag pairs key=P.comm key
 cnt:l.length=P.nopen
 few:l.length≤4
 nd:(l.map (fun p=>p.1.id)).Nodup
 txs:∀ q∈l,∃ p,P.tx q.1.id=some p∧TxA k P.log q.1.id p q.1 b
 opn:∀ t p,P.tx t=some p→∃ q∈l,q.1.id=t
theorem Ybw.up {n:Ya0} {l:List (TxV×TxS)} {pairs:Yaf} (h:Ybw k P n l pairs log b) (hc:b≤c):Ybw k P n l pairs log c:=
 ⟨h.mode,h.dead,h.nums,h.log,h.rise,h.comm,h.cnt,h.few,h.nd,fun q hq=>by obtain ⟨p,h1,h2⟩:=h.txs q hq;exact ⟨p,h1,h2.up hc⟩,h.opn⟩
section
variable {k:Bool} {P:Sp} {n:Ya0} {l:List (TxV×TxS)} {pairs:Yaf} {log:List Yac} {b:Nat}
theorem Ybw.at' (A:Ybw k P n l pairs log b) {t:Int} {p:TxP} (hp:P.tx t=some p):∃ i q,Ya5 l t=some i∧l[i]? = some q∧TxA k P.log t p q.1 b:=by
 obtain ⟨q,hq,rfl⟩:=A.opn t p hp;obtain ⟨i,hi⟩:=List.getElem?_of_mem hq;obtain ⟨p',h1,h2⟩:=A.txs q hq;rw [hp] at h1;simp only [Option.some.injEq] at h1;subst h1;exact ⟨i,q,Yjl A.nd hi,hi,h2⟩
theorem Ybw.shut (A:Ybw k P n l pairs log b) {t:Int} (hp:P.tx t=none):Ya5 l t=none:=by
 cases h:Ya5 l t with
 | none=>rfl
 | some i=>
  obtain ⟨q,h1,rfl⟩:=Yt4 h;obtain ⟨p,h2,_⟩:=A.txs q (List.mem_of_getElem? h1);rw [hp] at h2;cases h2
theorem Ybw.asked (A:Ybw k P n l pairs log b) (t:Int) (key:ByteArray):(Yca n.dead (Ya5 l t) key).2=Yc0 P t key:=by
 unfold Yca Yc0 Ya8;rw [A.dead]
 cases hp:P.tx t with
 | none=>rw [A.shut hp];rfl
 | some p=>
  obtain ⟨i,q,h1,_⟩:=A.at' hp;rw [h1];show (if key.size<1∨8<key.size then ((0:Int),(6:Int)) else ((i:Int),0)).2=if key.size<1∨8<key.size then 6 else 0
  split <;> rfl
theorem Yg2:∀ {ws:Ycl} {key:ByteArray},(Yb3 ws key).isSome=true↔key∈ws.map (·.1)
 | [],key=>by simp [Yb3]
 | p :: r,key=>by
  rw [Yb3];by_cases h:p.1=key
  ·simp [h]
  ·rw [if_neg h,Yg2,List.map_cons,List.mem_cons]
   exact ⟨.inr,fun h1=>h1.resolve_left (fun e=>h e.symm)⟩
theorem TxA.holds {q:TxV} (h:TxA k log t p q b) (key:ByteArray) (ch:Bool):Yf0 q key ch=true↔if ch then 1≤p.hold key else p.hold key=2:=by
 unfold Yf0 TxP.hold;rw [h.wr key,h.rd key];generalize (q.read.any fun x=>decide (x=key))=r
 cases hw:(p.wrote key).isSome with
 | true=>cases ch <;> simp
 | false=>cases ch <;> cases r <;> simp
theorem Ybw.locked (A:Ybw k P n l pairs log b) (t:Int) (key:ByteArray) (ch:Bool):Ycp l t key ch=true↔Yec P t key ch:=by
 unfold Ycp Yec;rw [List.any_eq_true];constructor
 ·rintro ⟨q,hq,h1⟩
  rw [Bool.and_eq_true] at h1;obtain ⟨p,h2,h3⟩:=A.txs q hq;refine ⟨q.1.id,p,h2,?_,(h3.holds key ch).1 h1.1⟩;have:=h1.2;simpa using this
 ·rintro ⟨u,p',hp',hu,h1⟩
  obtain ⟨i,q,_,h2,h3⟩:=A.at' hp';refine ⟨q,List.mem_of_getElem? h2,?_⟩;rw [Bool.and_eq_true];refine ⟨(h3.holds key ch).2 h1,?_⟩;rw [h3.id];simpa using hu
theorem Yt5 (key:ByteArray):∀ (ks:List ByteArray) {m:Yaf},Ybi m→Ybi (Ybj key m ks)
 | [],_,h=>h
 | k :: r,m,h=>by
  show Ybi (Ybj key (Ydw key m k) r);refine Yt5 key r ?_;unfold Ydw;split
  ·exact Yfo h _ _ _
  ·exact h
theorem Yt6 (key:ByteArray):∀ (ks:List ByteArray) {m:Yaf},Ybi m→∀ j,(Yag (Ybj key m ks) j).1=true↔(Yag m j).1=true∨(j∈ks∧Yae j=Yae key)
 | [],_,_,j=>by simp [Ybj]
 | k :: r,m,h,j=>by
  have hs:Ybi (Ydw key m k):=by unfold Ydw;split;exact Yfo h _ _ _;exact h
  show (Yag (Ybj key (Ydw key m k) r) j).1=true↔_;rw [Yt6 key r hs j];unfold Ydw;by_cases hb:Yae k=Yae key
  ·rw [if_pos hb,Yic h]
   by_cases hj:j=k
   ·subst hj;simp [hb]
   ·rw [if_neg hj];simp [hj]
  ·rw [if_neg hb]
   by_cases hj:j=k
   ·subst hj;simp [hb]
   ·simp [hj]
theorem Ybw.taken (A:Ybw k P n l pairs log b) (m:Nat) (j:ByteArray):(j∈Ye8 pairs l∧Yae j=m)↔taken P m j:=by
 unfold Ye8 Go.Proofs.YtihbngfbcnojcaaGreat.taken;rw [List.mem_append];have h1:j∈pairs.map (·.1)↔(P.comm j).1=true:=by
  rw [←A.comm j,Yhp,List.mem_map]
 have h2:j∈l.flatMap (fun p=>p.1.writes.map (·.1))↔∃ t p,P.tx t=some p∧(p.wrote j).isSome=true:=by
  rw [List.mem_flatMap];constructor
  ·rintro ⟨q,hq,h3⟩
   obtain ⟨p,h4,h5⟩:=A.txs q hq;exact ⟨q.1.id,p,h4,by rw [←h5.wr];exact Yg2.2 h3⟩
  ·rintro ⟨t,p,hp,h3⟩
   obtain ⟨i,q,_,h4,h5⟩:=A.at' hp;exact ⟨q,List.mem_of_getElem? h4,Yg2.1 (by rw [h5.wr];exact h3)⟩
 rw [h1,h2];exact ⟨fun h=>⟨h.2,h.1⟩,fun h=>⟨h.2,h.1⟩⟩
theorem Yl6:Ybi ([]:Yaf):=fun i _ hi=>by simp at hi
theorem Ybw.room (A:Ybw k P n l pairs log b) (key:ByteArray):Yes pairs l key=true↔Yih P key:=by
 have hr:=Yt5 key (Ye8 pairs l) Yl6;have hm:=fun j=>Yt6 key (Ye8 pairs l) Yl6 j
 have hmem:∀ j,j∈(Ybj key [] (Ye8 pairs l)).map (·.1)↔Go.Proofs.YtihbngfbcnojcaaGreat.taken P (Yae key) j:=fun j=>by
  rw [←A.taken,List.mem_map,←Yhp,hm];simp [Yag]
 have hn:=Yjb hr;show ((Yag (Ybj key [] (Ye8 pairs l)) key).1 || decide ((Ybj key [] (Ye8 pairs l)).length<4))=true↔_;generalize Ybj key [] (Ye8 pairs l)=M at hr hm hmem hn;rw [Bool.or_eq_true,decide_eq_true_iff];constructor
 ·intro h
  refine ⟨M.map (·.1),hn,hmem,?_⟩;rcases h with h | h
  ·left
   rw [List.mem_map];exact Yhp.1 h
  ·right
   simpa using h
 ·rintro ⟨L,hL,hLm,h⟩
  have hlen:L.length=(M.map (·.1)).length:=Yse hL hn (fun x=>by rw [hLm,hmem]);rw [List.length_map] at hlen;rcases h with h | h
  ·left
   rw [Yhp,←List.mem_map (f:=fun p:ByteArray×ByteArray=>p.1)];exact (hmem key).2 ((hLm key).1 h)
  ·right
   omega
end
end Go.Proofs.YtihbngfbcnojcaaGreat
