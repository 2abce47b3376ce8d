import Derived.Test.YtihbngfbcnojcaaGreatActC17
set_option maxRecDepth 100000
set_option maxHeartbeats 8000000
namespace Go.Proofs.YtihbngfbcnojcaaGreat
open Go.RowKit Tryz
variable {k:Bool} {t:Int} {l:List (TxV×TxS)} {log log':List Yac} {a b b' c mb pb q q':Nat} {B F G X:Nat→Prop} {P P' PM PS:Sp} {p:TxP} {W W' w w' w1:World} {n n':Ya0} {s:Ya4} {other pairs pairs':Yaf}
section
variable {k:Bool} {P:Sp} {n:Ya0} {l:List (TxV×TxS)} {pairs:Yaf} {log:List Yac} {b:Nat}
theorem Y3f (k:Bool) (n:Ya0) (hm:n.mode=if k then 0 else 1) (hd:n.dead=false) (h0:n.given=0∧n.actions=0):Ybw k Sp.empty n [] [] [] 0:=
 ⟨hm,hd,h0,rfl,Yl6,fun key=>rfl,rfl,Nat.zero_le _,List.nodup_nil,(fun q hq=>by cases hq),(fun t p hp=>by cases hp)⟩
theorem Y3g (A:Ybw k P n l pairs log b) (hfut:P.tx ((P.next:Int)+1)=none) (hl:l.length<4) (s:TxS):Ybw k P.begin { n with given:=n.given+1,actions:=n.actions+1 } (l ++ [({ id:=n.given+1,last:=0,read:=[],writes:=[],updates:=[] },s)]) pairs log b:=by
 have hne:∀ q∈l,q.1.id≠n.given+1:=fun q hq e=>by
  obtain ⟨p,h1,_⟩:=A.txs q hq;rw [e,A.nums.1,hfut] at h1;cases h1
 refine ⟨A.mode,A.dead,⟨?_,?_⟩,A.log,A.rise,A.comm,?_,by simp;omega,?_,fun q hq=>?_,fun t p hp=>?_⟩
 ·show n.given+1=((P.next+1:Nat):Int)
  rw [A.nums.1];omega
 ·show n.actions+1=((P.acts+1:Nat):Int)
  rw [A.nums.2];omega
 ·show (l ++ [_]).length=P.nopen+1
  rw [List.length_append,A.cnt];rfl
 ·rw [List.map_append,List.nodup_append]
  refine ⟨A.nd,by simp,fun x hx y hy=>?_⟩;obtain ⟨q,hq,rfl⟩:=List.mem_map.1 hx;simp only [List.map_cons,List.map_nil,List.mem_singleton] at hy;rw [hy];exact hne q hq
 ·rcases List.mem_append.1 hq with hq | hq
  ·obtain ⟨p,h1,h2⟩:=A.txs q hq
   refine ⟨p,?_,h2⟩;simp only [Sp.begin];rw [if_neg (by rw [←A.nums.1];exact hne q hq)];exact h1
  ·simp only [List.mem_singleton] at hq
   subst hq;refine ⟨TxP.new,?_,⟨rfl,rfl,fun key=>rfl,fun key=>rfl,List.nodup_nil,Nat.zero_le _,Nat.zero_le _,fun _=>⟨⟨rfl,fun k hk=>by simp at hk⟩,rfl,⟨fun _=>rfl,fun _=>rfl⟩⟩,fun _=>rfl⟩⟩;simp only [Sp.begin];rw [if_pos (by rw [←A.nums.1])]
 ·rcases Yey hp with ⟨rfl,rfl⟩ | ⟨_,h3⟩
  ·exact ⟨_,List.mem_append.2 (.inr (List.mem_singleton.2 rfl)),by rw [←A.nums.1]⟩
  ·obtain ⟨q,hq,h4⟩:=A.opn t p h3
   exact ⟨q,List.mem_append.2 (.inl hq),h4⟩
theorem Yo1 (A:Ybw k P n l pairs log b) {t:Int} {p':TxP} {i:Nat} {q q':TxV×TxS} (hi:l[i]? = some q) (hid:q.1.id=t) (hid':q'.1.id=t) (hmode:n'.mode=n.mode∧n'.dead=n.dead∧n'.given=n.given) (hact:n'.actions=(P'.acts:Int)) (hnx:P'.next=P.next) (hlog:log'=P'.log) (hcm:P'.comm=P.comm) (hno:P'.nopen=P.nopen)
 (htx:∀ u,P'.tx u=if u=t then some p' else P.tx u) (hmore:∀ u p0 q0,u≠t→TxA k P.log u p0 q0 b→TxA k P'.log u p0 q0 c) (hT:TxA k P'.log t p' q'.1 c):Ybw k P' n' (l.set i q') pairs log' c:=by
 have hil:i<l.length:=(List.getElem?_eq_some_iff.1 hi).1
 have hmap:(l.set i q').map (fun p=>p.1.id)=l.map (fun p=>p.1.id):=by
  rw [List.map_set];have h1:(l.map (fun p=>p.1.id))[i]? = some q'.1.id:=by rw [List.getElem?_map,hi,hid',←hid];rfl
  obtain ⟨h2,h3⟩:=List.getElem?_eq_some_iff.1 h1;rw [←h3];exact List.set_getElem_self h2
 have hmem:∀ x,x∈l.set i q'→x=q'∨(x∈l∧x.1.id≠t):=fun x hx=>by
  obtain ⟨j,hj⟩:=List.getElem?_of_mem hx;by_cases hji:j=i
  ·subst hji
   rw [List.getElem?_set_self hil] at hj;exact .inl (by simpa using hj.symm)
  ·rw [List.getElem?_set_ne (fun e=>hji e.symm)] at hj
   refine .inr ⟨List.mem_of_getElem? hj,fun e=>hji ?_⟩;have h1:=Yjl A.nd hj;have h2:=Yjl A.nd hi;rw [e] at h1;rw [hid] at h2;rw [h1] at h2;simpa using h2
 refine ⟨by rw [hmode.1];exact A.mode,by rw [hmode.2.1];exact A.dead,⟨by rw [hmode.2.2,hnx];exact A.nums.1,hact⟩,hlog,A.rise,by rw [hcm];exact A.comm,by rw [List.length_set,hno];exact A.cnt,by rw [List.length_set];exact A.few,by rw [hmap];exact A.nd,fun x hx=>?_,fun u p0 hp0=>?_⟩
 ·rcases hmem x hx with rfl | ⟨h1,h2⟩
  ·exact ⟨p',by rw [htx,if_pos hid'],by rw [hid'];exact hT⟩
  ·obtain ⟨p0,h3,h4⟩:=A.txs x h1
   exact ⟨p0,by rw [htx,if_neg h2];exact h3,hmore _ _ _ h2 h4⟩
 ·rw [htx] at hp0
  by_cases hu:u=t
  ·exact ⟨q',List.mem_of_getElem? (List.getElem?_set_self hil),by rw [hid',hu]⟩
  ·rw [if_neg hu] at hp0
   obtain ⟨x,hx,h1⟩:=A.opn u p0 hp0;obtain ⟨j,hj⟩:=List.getElem?_of_mem hx;have hji:j≠i:=fun e=>by rw [e,hi] at hj;simp only [Option.some.injEq] at hj;rw [←hj,hid] at h1;exact hu h1.symm
   exact ⟨x,List.mem_of_getElem? (by rw [List.getElem?_set_ne (fun e=>hji e.symm)];exact hj),h1⟩
theorem Y3h (A:Ybw k P n l pairs log b) {t:Int} {p:TxP} {i:Nat} {q:TxV×TxS} (hi:l[i]? = some q) (T:TxA k P.log t p q.1 b) (key:ByteArray) (s:TxS):Ybw k (P.read t p key) n (l.set i ({ q.1 with read:=q.1.read ++ [key] },s)) pairs log (b+1):=by
 refine Yo1 A hi T.id T.id ⟨rfl,rfl,rfl⟩ A.nums.2 rfl A.log rfl rfl (fun u=>rfl) (fun u p0 q0 _ h=>h.up (by omega)) ⟨T.id,T.last,T.wr,fun k'=>?_,T.nd,T.wl,by have:=T.rl;simp;omega,T.ups,T.bare⟩;show (if k'=key then 1 else p.read k')=if (q.1.read ++ [key]).any (fun x=>decide (x=k')) then 1 else 0
 rw [List.any_append,T.rd k'];by_cases h:k'=key
 ·subst h;simp
 ·have:¬key=k':=fun e=>h e.symm
  rw [if_neg h,List.any_cons,decide_eq_false this,List.any_nil,Bool.or_false,Bool.or_false]
theorem Ykq:∀ (ws:Ycl) (key:ByteArray) (c:Bool×ByteArray) (j:ByteArray),Yb3 (Ybt ws key c) j=if j=key then some c else Yb3 ws j
 | [],key,c,j=>by
  show (if key=j then some c else none)=if j=key then some c else none
  by_cases h:j=key
  ·rw [if_pos h.symm,if_pos h]
  ·rw [if_neg (fun e=>h e.symm),if_neg h]
 | p :: r,key,c,j=>by
  rw [Ybt];by_cases hp:p.1=key
  ·rw [if_pos hp,Yb3,Yb3]
   by_cases h:j=key
   ·rw [if_pos h.symm,if_pos h]
   ·rw [if_neg (fun e=>h e.symm),if_neg h,if_neg (fun e=>h (by rw [←e,hp]))]
  ·rw [if_neg hp,Yb3,Ykq r key c j,Yb3]
   by_cases h:j=key
   ·rw [if_neg (fun e=>hp (by rw [e,h])),if_pos h,if_pos h]
   ·rw [if_neg h,if_neg h]
theorem Yo2:∀ (ws:Ycl) (key:ByteArray) (c:Bool×ByteArray),(ws.map (·.1)).Nodup→((Ybt ws key c).map (·.1)).Nodup
 | [],key,c,_=>by simp [Ybt]
 | p :: r,key,c,h=>by
  rw [List.map_cons,List.nodup_cons] at h;rw [Ybt];by_cases hp:p.1=key
  ·rw [if_pos hp,List.map_cons,List.nodup_cons]
   exact ⟨by show ¬key∈_;rw [←hp];exact h.1,h.2⟩
  ·rw [if_neg hp,List.map_cons,List.nodup_cons]
   refine ⟨fun hm=>?_,Yo2 r key c h.2⟩;rw [←Yg2,Ykq,if_neg hp,Yg2] at hm;exact h.1 hm
theorem Y3i (ws:Ycl) (key:ByteArray) (c:Bool×ByteArray):Ybt ws key c≠[]:=fun e=>by
 have:=Ykq ws key c key;rw [e,if_pos rfl] at this
 cases this
theorem TxA.view {q:TxV} (A:Ybw k P n l pairs log b) {lg:List Yac} (T:TxA k lg t p q b) (key:ByteArray):Ycb q pairs key=Ycc P p key:=by
 unfold Ycb Ycc;rw [T.wr key,A.comm key]
theorem Yg1.snoc {U:List Int} {es:List Yac} (h:Yg1 log U es) (e:Yac) (hp:e.prev=U.getLastD 0):Yg1 (log ++ [e]) (U ++ [(log.length:Int)+1]) (e :: es):=by
 refine ⟨by simp [h.len],fun k hk=>?_⟩;rw [List.length_append,List.length_singleton] at hk;by_cases hkU:k<U.length
 ·obtain ⟨h1,h2,x,h3,h4,h5⟩:=(h.more [e]).at' k hkU
  have hg:(U ++ [(log.length:Int)+1])[k]'(by simp;omega)=U[k]:=List.getElem_append_left hkU;refine ⟨by rw [hg];exact h1,by rw [hg];exact h2,x,by rw [hg];exact h3,?_,?_⟩
  ·rw [List.length_append,List.length_singleton,show U.length+1 - 1 - k=(U.length - 1 - k)+1 by omega]
   exact h4
  ·rw [h5]
   by_cases h0:k=0
   ·rw [dif_pos h0,dif_pos h0]
   ·rw [dif_neg h0,dif_neg h0]
    exact (List.getElem_append_left (by omega)).symm
 ·have hkk:k=U.length:=by omega
  subst hkk;have hg:(U ++ [(log.length:Int)+1])[U.length]'(by simp)=(log.length:Int)+1:=by simp
  refine ⟨by rw [hg];omega,by rw [hg];simp,e,?_,?_,?_⟩
  ·rw [hg]
   have:((log.length:Int)+1).toNat - 1=log.length:=by omega
   rw [this];simp
  ·simp
  ·rw [hp]
   by_cases h0:U.length=0
   ·rw [dif_pos h0,List.length_eq_zero_iff.1 h0];rfl
   ·rw [dif_neg h0,List.getElem_append_left (by omega)]
    rw [List.getLastD_eq_getLast?,List.getLast?_eq_getElem?,List.getElem?_eq_getElem (by omega)];rfl
theorem Y3j (A:Ybw true P n l pairs log b) {t:Int} {p:TxP} {i:Nat} {q:TxV×TxS} (hi:l[i]? = some q) (T:TxA true P.log t p q.1 b) (key:ByteArray) (c:Bool×ByteArray) (s:TxS):
 Ybw true (P.write true t p key c) { n with actions:=n.actions+1 } (l.set i ({ q.1 with writes:=Ybt q.1.writes key c,last:=(log.length:Int)+1,updates:=q.1.updates ++ [(log.length:Int)+1] },s)) pairs (log ++ [⟨1,q.1.id,q.1.last,0,key,(Ycb q.1 pairs key).1,(Ycb q.1 pairs key).2,c.1,c.2⟩]) b:=by
 obtain ⟨u1,u2,u3⟩:=T.ups rfl
 have he:(⟨1,q.1.id,q.1.last,0,key,(Ycb q.1 pairs key).1,(Ycb q.1 pairs key).2,c.1,c.2⟩:Yac)=Yii P t p key c:=by
  rw [T.view A,T.id,T.last];rfl
 have hlg:log=P.log:=A.log
 rw [he,hlg]
 refine Yo1 A hi T.id T.id ⟨rfl,rfl,rfl⟩ (by show n.actions+1=((P.acts+1:Nat):Int);rw [A.nums.2];omega) rfl rfl rfl rfl (fun u=>rfl) (fun u p0 q0 _ h=>h.more _) ?_
 refine ⟨T.id,by show (P.log.length:Int)+1=((P.log.length+1:Nat):Int);omega,fun j=>?_,T.rd,Yo2 _ _ _ T.nd,?_,T.rl,fun _=>⟨?_,?_,?_⟩,fun h=>by cases h⟩
 ·show Yb3 (Ybt q.1.writes key c) j=if j=key then some c else p.wrote j
  rw [Ykq,T.wr]
 ·have h1:=Yj0 q.1.writes key c
  have h2:=T.wl;show (Ybt q.1.writes key c).length≤p.n+1;omega
 ·exact u1.snoc (Yii P t p key c) (by rw [u2];rfl)
 ·show (q.1.updates ++ [(P.log.length:Int)+1]).getLastD 0=((P.log.length+1:Nat):Int)
  rw [List.getLastD_eq_getLast?,List.getLast?_concat];show (P.log.length:Int)+1=_;omega
 ·show P.log.length+1=0↔Ybt q.1.writes key c=[]
  exact ⟨fun h=>by omega,fun h=>absurd h (Y3i _ _ _)⟩
theorem Y3k (A:Ybw false P n l pairs log b) {t:Int} {p:TxP} {i:Nat} {q:TxV×TxS} (hi:l[i]? = some q) (T:TxA false P.log t p q.1 b) (key:ByteArray) (c:Bool×ByteArray) (s:TxS):
 Ybw false (P.write false t p key c) { n with actions:=n.actions+1 } (l.set i ({ q.1 with writes:=Ybt q.1.writes key c },s)) pairs log b:=by
 refine Yo1 A hi T.id T.id ⟨rfl,rfl,rfl⟩ (by show n.actions+1=((P.acts+1:Nat):Int);rw [A.nums.2];omega) rfl A.log rfl rfl (fun u=>rfl) (fun u p0 q0 _ h=>h) ?_
 refine ⟨T.id,T.last,fun j=>?_,T.rd,Yo2 _ _ _ T.nd,?_,T.rl,(fun h=>by cases h),T.bare⟩
 ·show Yb3 (Ybt q.1.writes key c) j=if j=key then some c else p.wrote j
  rw [Ykq,T.wr]
 ·have h1:=Yj0 q.1.writes key c
  have h2:=T.wl;show (Ybt q.1.writes key c).length≤p.n+1;omega
theorem Yt7:∀ (ws:Ycl) {ps:Yaf},Ybi ps→Ybi (Ybu ps ws)
 | [],_,h=>h
 | p :: r,_,h=>Yt7 r (Yfo h p.1 p.2.1 p.2.2)
theorem Yt8:∀ (ws:Ycl) {ps:Yaf},Ybi ps→(ws.map (·.1)).Nodup→∀ key,Yag (Ybu ps ws) key=match Yb3 ws key with | some c=>Ydj c | none=>Yag ps key
 | [],_,_,_,key=>rfl
 | p :: r,ps,h,hn,key=>by
  rw [List.map_cons,List.nodup_cons] at hn;show Yag (Ybu (Yaw ps p.1 p.2.1 p.2.2) r) key=_;rw [Yt8 r (Yfo h _ _ _) hn.2 key,Yb3];by_cases hk:p.1=key
  ·have hr:Yb3 r key=none:=by
    cases hw:Yb3 r key with
    | none=>rfl
    | some c=>exact absurd (Yg2.1 (by rw [hw];rfl)) (by rw [←hk];exact hn.1)
   rw [hr,if_pos hk];show Yag (Yaw ps p.1 p.2.1 p.2.2) key=Ydj p.2;rw [Yic h,if_pos hk.symm];rfl
  ·rw [if_neg hk]
   cases Yb3 r key with
   | some c=>rfl
   | none=>
    show Yag (Yaw ps p.1 p.2.1 p.2.2) key=_;rw [Yic h,if_neg (fun e=>hk e.symm)]
theorem Y3l (ws:Ycl):Ybi (Ydh ws)∧∀ key,(Yag (Ydh ws) key).1=true↔key∈ws.map (·.1):=by
 have gen:∀ (ws:Ycl) {ps:Yaf},Ybi ps→Ybi (ws.foldl (fun q p=>Yaw q p.1 true ByteArray.empty) ps)∧∀ key,(Yag (ws.foldl (fun q p=>Yaw q p.1 true ByteArray.empty) ps) key).1=true↔key∈ws.map (·.1)∨(Yag ps key).1=true:=by
  intro ws;induction ws with
  | nil=>intro ps h;exact ⟨h,fun key=>by simp⟩
  | cons p r ih=>
   intro ps h;obtain ⟨h1,h2⟩:=ih (Yfo h p.1 true ByteArray.empty);refine ⟨h1,fun key=>?_⟩;rw [List.foldl_cons,h2,Yic h,List.map_cons,List.mem_cons];by_cases hk:key=p.1
   ·simp [hk]
   ·simp [hk]
 obtain ⟨h1,h2⟩:=gen ws Yl6;exact ⟨h1,fun key=>by rw [Ydh,h2];simp [Yag]⟩
theorem Yt9 (A:Ybw k P n l pairs log b) {t:Int} {i:Nat} {q:TxV×TxS} (hi:l[i]? = some q) (hid:q.1.id=t) (hn:P'.next=P.next∧P'.acts=P.acts) (hno:P'.nopen=P.nopen - 1) (hlog:log'=P'.log) (hpre:∃ x,P'.log=P.log ++ x) (htx:∀ u,P'.tx u=if u=t then none else P.tx u) (hr:Ybi pairs') (hc:∀ key,Yag pairs' key=P'.comm key):Ybw k P' n (l.eraseIdx i) pairs' log' b:=by
 have hil:i<l.length:=(List.getElem?_eq_some_iff.1 hi).1;have hmem:∀ x,x∈l.eraseIdx i↔x∈l∧x.1.id≠t:=fun x=>by
  rw [List.mem_eraseIdx_iff_getElem?];constructor
  ·rintro ⟨j,hj,hx⟩
   refine ⟨List.mem_of_getElem? hx,fun e=>hj ?_⟩;have h1:=Yjl A.nd hx;have h2:=Yjl A.nd hi;rw [e] at h1;rw [hid,h1] at h2;simpa using h2
  ·rintro ⟨hx,hne⟩
   obtain ⟨j,hj⟩:=List.getElem?_of_mem hx;exact ⟨j,fun e=>by rw [e,hi] at hj;simp only [Option.some.injEq] at hj;rw [←hj] at hne;exact hne hid,hj⟩
 obtain ⟨x0,hx0⟩:=hpre;refine ⟨A.mode,A.dead,⟨by rw [hn.1];exact A.nums.1,by rw [hn.2];exact A.nums.2⟩,hlog,hr,hc,by rw [List.length_eraseIdx_of_lt hil,hno,A.cnt],by rw [List.length_eraseIdx_of_lt hil];have:=A.few;omega,?_,fun x hx=>?_,fun u p0 hp0=>?_⟩
 ·exact (List.Sublist.map _ (List.eraseIdx_sublist l i)).nodup A.nd
 ·obtain ⟨h1,h2⟩:=(hmem x).1 hx
  obtain ⟨p0,h3,h4⟩:=A.txs x h1;exact ⟨p0,by rw [htx,if_neg h2];exact h3,by rw [hx0];exact h4.more x0⟩
 ·rw [htx] at hp0
  by_cases hu:u=t
  ·rw [if_pos hu] at hp0;cases hp0
  ·rw [if_neg hu] at hp0
   obtain ⟨x,hx,h1⟩:=A.opn u p0 hp0;exact ⟨x,(hmem x).2 ⟨hx,by rw [h1];exact hu⟩,h1⟩
theorem Y3m (A:Ybw k P n l pairs log b) {t:Int} {p:TxP} (hnrm:∀ key c,p.wrote key=some c→Ydj c=c) {q:TxV} (T:TxA k P.log t p q b) (key:ByteArray):Yag (Ybu pairs q.writes) key=Ycc P p key:=by
 rw [Yt8 _ A.rise T.nd,T.wr key];unfold Ycc
 cases hw:p.wrote key with
 | none=>exact A.comm key
 | some c=>exact hnrm key c hw
theorem Yl7 {q:TxV} (T:TxA k log t p q b) (len j:Nat):Yba q len j=((Ydc p.last len j:Nat):Int):=by
 unfold Yba Ydc;split
 ·exact T.last
 ·omega
end
def Yl8 (mb:Nat) (s:Ya4) (l:List (TxV×TxS)) (x:Nat):Prop:=(∃ a,Yai mb s l a=some x)∨s.vp.ownBlock=some x∨s.vo.ownBlock=some x
def Yc1 (w:World) (mb:Nat) (k:Bool) (P:Sp) (F:Nat→Prop) (b:Nat):Prop:=∃ n s l pairs other log,Yaq w mb n s l pairs other log∧Ybw k P n l pairs log b∧(∀ x,Yl8 mb s l x→F x)∧∀ x,F x→x<w.heap.size
def Ycx (F:Nat→Prop) (w w':World) (x:Nat):Prop:=F x∨(w.heap.size≤x∧x<w'.heap.size)
def Yde (w w':World) (mb:Nat) (k:Bool) (P:Sp) (F:Nat→Prop) (b:Nat):Prop:=Yc1 w' mb k P (Ycx F w w') b∧Below 0 w w'∧∀ x,x<w.heap.size→¬F x→w'.heap[x]? = w.heap[x]?
theorem Yhq {s':Ya4} {l':List (TxV×TxS)} {other':Yaf} (_h:Yaq w mb n s l pairs other log) (hF:∀ x,Yl8 mb s l x→F x) (hlt:∀ x,F x→x<w.heap.size) (h':Yaq w' mb n' s' l' pairs' other' log') (hst:Ya9 w w' mb s s' l l') (A:Ybw k P' n' l' pairs' log' b):Yde w w' mb k P' F b:=by
 refine ⟨⟨n',s',l',pairs',other',log',h',A,fun x hx=>?_,fun x hx=>?_⟩,hst.below,fun x hx hn=>hst.kept x hx (fun a e=>hn (hF x (.inl ⟨a,e⟩)))⟩
 ·rcases hx with ⟨a,ha⟩ | hx
  ·rcases hst.blks a x ha with ⟨c,hc⟩ | h1
   ·exact .inl (hF x (.inl ⟨c,hc⟩))
   ·exact .inr ⟨h1,h'.lt a x ha⟩
  ·rcases hst.imm x hx with h1 | h1
   ·exact .inl (hF x (.inr h1))
   ·refine .inr ⟨h1,?_⟩
    rcases hx with hx | hx
    ·exact (h'.prs.lt x hx).2
    ·exact (h'.oth.lt x hx).2
 ·have:=hst.below.size
  rcases hx with hx | hx
  ·have:=hlt x hx;omega
  ·exact hx.2
theorem Yjm (h:Yaq w mb n s l pairs other log) (hF:∀ x,Yl8 mb s l x→F x) (hlt:∀ x,F x→x<w.heap.size) (A:Ybw k P n l pairs log b) (hb:Below w.heap.size w w'):Yde w w' mb k P F b:=
 Yhq h hF hlt (h.below hb) (Ya9.of_below h hb) A
theorem Yc1.frame (h:Yc1 w mb k P F b) (hk:∀ x,F x→w'.heap[x]? = w.heap[x]?) (hs:w.heap.size≤w'.heap.size):Yc1 w' mb k P F b:=by
 obtain ⟨n,s,l,pairs,other,log,h1,h2,h3,h4⟩:=h;exact ⟨n,s,l,pairs,other,log,h1.off (fun x _ hx=>hk x (h3 x hx)),h2,h3,fun x hx=>by have:=h4 x hx;omega⟩
theorem Yc1.up (h:Yc1 w mb k P F b) (hc:b≤c):Yc1 w mb k P F c:=by
 obtain ⟨n,s,l,pairs,other,log,h1,h2,h3,h4⟩:=h;exact ⟨n,s,l,pairs,other,log,h1,h2.up hc,h3,h4⟩
def Fit (P:Sp):Prop:=∀ n,n<8→∃ L:List ByteArray,L.length≤4∧∀ key,taken P n key→key∈L
theorem Y3n (S:Yb6 w a k P X q):Fit P∧Wf k P:=by
 obtain ⟨s,L,R,_⟩:=S;refine ⟨fun n hn=>?_,R.wf⟩;obtain ⟨l,h1,h2⟩:=L.cap n hn;exact ⟨l,h1,fun key hk=>h2 key ((R.keptTaken n hn key).2 hk)⟩
theorem Yua {α:Type}:∀ {l m:List α},l.Nodup→(∀ x∈l,x∈m)→l.length≤m.length
 | [],_,_,_=>Nat.zero_le _
 | a :: r,m,hn,hm=>by
  rw [List.nodup_cons] at hn;obtain ⟨s,t,rfl⟩:=List.append_of_mem (hm a (by simp));have h1:r.length≤(s ++ t).length:=Yua hn.2 (fun x hx=>by
   have h2:=hm x (by simp [hx]);rw [List.mem_append,List.mem_cons] at h2;rw [List.mem_append];rcases h2 with h2 | h2 | h2
   ·exact .inl h2
   ·rw [h2] at hx;exact absurd hx hn.1
   ·exact .inr h2)
  simp only [List.length_cons,List.length_append] at h1 ⊢;omega
theorem Yub (h:Fit P) {pairs:Yaf} (hr:Ybi pairs) (hc:∀ key,Yag pairs key=P.comm key):pairs.length≤32:=by
 obtain ⟨l0,a0,b0⟩:=h 0 (by omega);obtain ⟨l1,a1,b1⟩:=h 1 (by omega);obtain ⟨l2,a2,b2⟩:=h 2 (by omega);obtain ⟨l3,a3,b3⟩:=h 3 (by omega);obtain ⟨l4,a4,b4⟩:=h 4 (by omega);obtain ⟨l5,a5,b5⟩:=h 5 (by omega);obtain ⟨l6,a6,b6⟩:=h 6 (by omega);obtain ⟨l7,a7,b7⟩:=h 7 (by omega);have hle:=Yua (m:=l0 ++ l1 ++ l2 ++ l3 ++ l4 ++ l5 ++ l6 ++ l7) (Yjb hr) (fun x hx=>by
  have hu:(P.comm x).1=true:=by
   rw [←hc,Yhp];obtain ⟨p,hp,rfl⟩:=List.mem_map.1 hx;exact ⟨p,hp,rfl⟩
  have hb:=Ycy x;have key:∀ n,Yae x=n→taken P n x:=fun n e=>⟨e,.inl hu⟩
  simp only [List.mem_append];have:Yae x=0∨Yae x=1∨Yae x=2∨Yae x=3∨Yae x=4∨Yae x=5∨Yae x=6∨Yae x=7:=by omega
  rcases this with e | e | e | e | e | e | e | e
  ·have:=b0 x (key _ e);simp [this]
  ·have:=b1 x (key _ e);simp [this]
  ·have:=b2 x (key _ e);simp [this]
  ·have:=b3 x (key _ e);simp [this]
  ·have:=b4 x (key _ e);simp [this]
  ·have:=b5 x (key _ e);simp [this]
  ·have:=b6 x (key _ e);simp [this]
  ·have:=b7 x (key _ e);simp [this])
 simp only [List.length_map,List.length_append] at hle;omega
theorem Yl9 (A:Ybw k P n l pairs log b) (W:Wf k P) (h:Fit P) (hb:b≤1999999999999):Yhd l pairs log∧log.length≤240∧∀ q∈l,q.1.updates.length≤240:=by
 have hup:∀ q∈l,q.1.writes.length≤240∧q.1.updates.length≤240∧q.1.read.length≤b:=fun q hq=>by
  obtain ⟨p,h1,T⟩:=A.txs q hq;have hr:=W.room h1;have:=T.wl;refine ⟨by omega,?_,T.rl⟩
  cases k with
  | true=>
   have h2:=(T.ups rfl).1.len;have h3:=(W.ups rfl _ p h1).2.1;omega
  | false=>rw [T.bare rfl];simp
 have hlg:log.length≤240:=by
  rw [A.log];have:=W.cost;have:=W.acts;omega
 refine ⟨⟨A.few,by have:=Yub h A.rise A.comm;omega,fun q hq=>?_,fun p hp=>?_,fun q hq x hx=>?_,by omega⟩,hlg,fun q hq=>(hup q hq).2.1⟩
 ·obtain ⟨h1,h2,h3⟩:=hup q hq
  exact ⟨by omega,by omega,by omega⟩
 ·have:=W.ksz.1 p.1 (by rw [←A.comm,Yhp];exact ⟨p,hp,rfl⟩)
  omega
 ·obtain ⟨p,h1,T⟩:=A.txs q hq
  have:=W.ksz.2 _ p x.1 h1 (by rw [←T.wr];exact Yg2.2 (List.mem_map.2 ⟨x,hx,rfl⟩));omega
section
variable {w:World} {mb:Nat} {k:Bool} {P:Sp} {F:Nat→Prop} {b:Nat}
theorem Y3o (M:Yc1 w mb k P F b) (W:Wf k P) (h0:Ydd P=0):
 Calls prog 93 #[.pointer (some ⟨mb,0,none⟩)] w fun e w'=>e=.returned (.tuple #[.int .i64 ((P.next:Int)+1),.int .i64 0])∧Yde w w' mb k P.begin F b:=by
 obtain ⟨n,s,l,pairs,other,log,h1,A,h3,h4⟩:=M
 have hacts:=W.acts
 have hnx:=W.nx
 unfold Ydd at h0
 have hl:l.length<4:=by
  rw [A.cnt];split at h0
  ·omega
  ·omega
 have ha:P.acts<120:=by
  split at h0
  ·omega
  ·split at h0 <;> omega
 refine (Yv2 mb n s l pairs other log w h1 A.dead hl (by rw [A.nums.2];omega) (by rw [A.nums.2];omega) (by rw [A.nums.1];omega) (by rw [A.nums.1];omega)).mono ?_
 rintro e w' ⟨rfl,vt',h5,h6⟩
 rw [A.nums.1]
 refine ⟨rfl,Yhq h1 h3 h4 h5 h6 (Y3g A (W.fut _ (by omega)) hl _)⟩
theorem Y3p (M:Yc1 w mb k P F b) (h0:Ydd P≠0):
 Calls prog 93 #[.pointer (some ⟨mb,0,none⟩)] w fun e w'=>e=.returned (.tuple #[.int .i64 0,.int .i64 (Ydd P)])∧Yde w w' mb k P F b:=by
 obtain ⟨n,s,l,pairs,other,log,h1,A,h3,h4⟩:=M
 have he:Yfi n l.length=Ydd P:=by
  unfold Yfi Ydd;rw [A.dead,A.cnt,A.nums.2];simp only [Bool.false_eq_true,if_false];have:((120:Int)≤(P.acts:Int))↔120≤P.acts:=by omega
  simp only [this]
 refine (Yv3 mb n s l pairs other log w h1 (by rw [he];exact h0)).mono ?_
 rintro e w' ⟨rfl,rfl⟩
 rw [he]
 exact ⟨rfl,Yjm h1 h3 h4 A (Below.refl _ _)⟩
theorem Y3q (M:Yc1 w mb k P F b) (hb:b≤1999999999999) (t:Int) (p:TxP) (hp:P.tx t=some p) (key:ByteArray) (hks:1≤key.size∧key.size≤8) (hfree:¬Yec P t key false):
 Calls prog 94 #[.pointer (some ⟨mb,0,none⟩),.int .i64 t,.string key] w fun e w'=>e=.returned (.tuple #[.agg #[.bool (Ycc P p key).1,.string (Ycc P p key).2],.int .i64 0])∧Yde w w' mb k (P.read t p key) F (b+1):=by
 obtain ⟨n,s,l,pairs,other,log,h1,A,h3,h4⟩:=M
 obtain ⟨i,q,hf,hi,T⟩:=A.at' hp
 have hlk:Ycp l t key false=false:=by
  cases h:Ycp l t key false with
  | false=>rfl
  | true=>exact absurd ((A.locked t key false).1 h) hfree
 have hfew:=A.few
 have hrl:=T.rl
 refine (Yv7 mb n s l pairs other log t key i q w h1 A.dead hf hi hks.1 hks.2 hlk (by omega) (by omega)).mono ?_
 rintro e w' ⟨rfl,vr',h5,h6⟩
 rw [T.view A]
 exact ⟨rfl,Yhq h1 h3 h4 h5 h6 (Y3h A hi T key _)⟩
theorem Y3r (M:Yc1 w mb k P F b) (t:Int) (key:ByteArray) (r:Int) (hr:(Yc0 P t key≠0∧r=Yc0 P t key)∨(Yc0 P t key=0∧Yec P t key false∧r=8)):
 Calls prog 94 #[.pointer (some ⟨mb,0,none⟩),.int .i64 t,.string key] w fun e w'=>e=.returned (.tuple #[.agg #[.bool false,.string ByteArray.empty],.int .i64 r])∧Yde w w' mb k P F b:=by
 obtain ⟨n,s,l,pairs,other,log,h1,A,h3,h4⟩:=M
 have hfew:=A.few
 have he:Ygm n l t key=r∧r≠0:=by
  unfold Ygm;rw [A.asked];rcases hr with ⟨h5,h6⟩ | ⟨h5,h6,h7⟩
  ·rw [if_pos h5,h6];exact ⟨rfl,h5⟩
  ·rw [if_neg (fun h=>h h5),if_pos ((A.locked t key false).2 h6),h7];exact ⟨rfl,by omega⟩
 refine (Yv8 mb n s l pairs other log t key w h1 (by rw [he.1];exact he.2) (by omega)).mono ?_
 rintro e w' ⟨rfl,h5⟩
 rw [he.1]
 exact ⟨rfl,Yjm h1 h3 h4 A h5⟩
theorem Y3s (M:Yc1 w mb k P F b) (W:Wf k P) (ft:Fit P) (hb:b≤1999999999999) (t:Int) (p:TxP) (key:ByteArray) (c:Bool×ByteArray) (m:Yez P t p key c):
 Calls prog 132 #[.pointer (some ⟨mb,0,none⟩),.int .i64 t,.string key,.agg #[.bool c.1,.string c.2]] w fun e w'=>e=.returned (.int .i64 0)∧Yde w w' mb k (P.write k t p key c) F b:=by
 obtain ⟨n,s,l,pairs,other,log,h1,A,h3,h4⟩:=M
 obtain ⟨i,q,hf,hi,T⟩:=A.at' m.tx
 obtain ⟨hs,_,_⟩:=Yl9 A W ft hb
 have hlk:Ycp l t key true=false:=by
  cases h:Ycp l t key true with
  | false=>rfl
  | true=>exact absurd ((A.locked t key true).1 h) m.free
 have hrm:=(A.room key).2 m.room
 have hac:=m.acts
 have hmode:=A.mode
 cases k with
 | true=>
  refine (Ywe mb n s l pairs other log t key c.1 c.2 i q w h1 hs hmode A.dead hf hi m.ksz.1 m.ksz.2 m.val hlk (by rw [A.nums.2];omega) (by rw [A.nums.2];omega) hrm).mono ?_;rintro e w' ⟨rfl,vw',vu',vl',h5,h6⟩;exact ⟨rfl,Yhq h1 h3 h4 h5 h6 (Y3j A hi T key c _)⟩
 | false=>
  refine (Ywb mb n s l pairs other log t key c.1 c.2 i q w h1 hs hmode A.dead hf hi m.ksz.1 m.ksz.2 m.val hlk (by rw [A.nums.2];omega) (by rw [A.nums.2];omega) hrm).mono ?_;rintro e w' ⟨rfl,vw',h5,h6⟩;exact ⟨rfl,Yhq h1 h3 h4 h5 h6 (Y3k A hi T key c _)⟩
theorem Y3t (M:Yc1 w mb k P F b) (W:Wf k P) (ft:Fit P) (hb:b≤1999999999999) (t:Int) (key:ByteArray) (c:Bool×ByteArray) (hvs:c.2.size≤140737488355328) (r:Int) (hw:WP P t key c.2 r):
 Calls prog 132 #[.pointer (some ⟨mb,0,none⟩),.int .i64 t,.string key,.agg #[.bool c.1,.string c.2]] w fun e w'=>e=.returned (.int .i64 r)∧Yde w w' mb k P F b:=by
 obtain ⟨n,s,l,pairs,other,log,h1,A,h3,h4⟩:=M
 obtain ⟨hs,_,_⟩:=Yl9 A W ft hb
 have hlk:Yec P t key true→Ycp l t key true=true:=(A.locked t key true).2
 have hlk':¬Yec P t key true→Ycp l t key true=false:=fun hn=>by
  cases h:Ycp l t key true with
  | false=>rfl
  | true=>exact absurd ((A.locked t key true).1 h) hn
 have he:Yek n l pairs t key c.2=r∧r≠0:=by
  unfold Yek;rw [A.asked,A.nums.2];rcases hw with ⟨h5,h6⟩ | ⟨h5,h6,h7⟩ | ⟨h5,h6,h7,h8⟩ | ⟨h5,h6,h7,h8,h9⟩
  ·rw [if_pos h5,h6];exact ⟨rfl,h5⟩
  ·rw [if_neg (fun h=>h h5),if_pos h6,h7];exact ⟨rfl,by omega⟩
  ·rw [if_neg (fun h=>h h5),if_neg (by omega),if_pos (hlk h7),h8];exact ⟨rfl,by omega⟩
  ·have h10:(120:Int)≤(P.acts:Int)∨Yes pairs l key=false:=by
    rcases h8 with h8 | h8
    ·left;omega
    ·right
     cases h:Yes pairs l key with
     | false=>rfl
     | true=>exact absurd ((A.room key).1 h) h8
   rw [if_neg (fun h=>h h5),if_neg (by omega),hlk' h7,if_neg (by simp),if_pos h10,h9];exact ⟨rfl,by omega⟩
 have hk8:(Yca n.dead (Ya5 l t) key).2=0→key.size≤8:=fun h=>by
  rw [A.asked] at h;unfold Yc0 Ya8 at h;split at h
  ·omega
  ·split at h
   ·omega
   ·omega
 refine (Ywf mb n s l pairs other log t key c.1 c.2 w h1 hs hk8 hvs (by rw [he.1];exact he.2)).mono ?_
 rintro e w' ⟨rfl,h5⟩
 rw [he.1]
 exact ⟨rfl,Yjm h1 h3 h4 A h5⟩
theorem Ybw.over (A:Ybw k P n l pairs log b) {t:Int} (hp:P.tx t=none):Ydy n l t=5:=by
 unfold Ydy;rw [A.dead,A.shut hp];rfl
theorem Y3u (M:Yc1 w mb k P F b) (t:Int) (hp:P.tx t=none):
 Calls prog 96 #[.pointer (some ⟨mb,0,none⟩),.int .i64 t] w fun e w'=>e=.returned (.int .i64 5)∧Yde w w' mb k P F b:=by
 obtain ⟨n,s,l,pairs,other,log,h1,A,h3,h4⟩:=M
 have hfew:=A.few
 have he:=A.over hp
 refine (Ywn mb n s l pairs other log t w h1 (by omega) (by rw [he];omega)).mono ?_
 rintro e w' ⟨rfl,rfl⟩
 rw [he]
 exact ⟨rfl,Yjm h1 h3 h4 A (Below.refl _ _)⟩
theorem Y3v (M:Yc1 w mb k P F b) (t:Int) (hp:P.tx t=none):
 Calls prog 97 #[.pointer (some ⟨mb,0,none⟩),.int .i64 t] w fun e w'=>e=.returned (.int .i64 5)∧Yde w w' mb k P F b:=by
 obtain ⟨n,s,l,pairs,other,log,h1,A,h3,h4⟩:=M
 have hfew:=A.few
 have he:=A.over hp
 refine (Ywo mb n s l pairs other log t w h1 (by omega) (by rw [he];omega)).mono ?_
 rintro e w' ⟨rfl,rfl⟩
 rw [he]
 exact ⟨rfl,Yjm h1 h3 h4 A (Below.refl _ _)⟩
theorem Ybw.nrm (W:Wf k P) {t:Int} {p:TxP} (hp:P.tx t=some p):∀ key c,p.wrote key=some c→Ydj c=c:=fun key c hc=>W.nrm.2 t p key c hp hc
theorem Y3w (M:Yc1 w mb k P F b) (W:Wf k P) (ft:Fit P) (hb:b≤1999999999999) (t:Int) (p:TxP) (hp:P.tx t=some p) (ks:List ByteArray) (hks:k=false→Yoq p ks):
 Calls prog 96 #[.pointer (some ⟨mb,0,none⟩),.int .i64 t] w fun e w'=>e=.returned (.int .i64 0)∧Yde w w' mb k (P.commit k t p ks) F b:=by
 obtain ⟨n,s,l,pairs,other,log,h1,A,h3,h4⟩:=M
 obtain ⟨i,q,hf,hi,T⟩:=A.at' hp
 obtain ⟨hs,hlg,_⟩:=Yl9 A W ft hb
 have hmode:=A.mode
 have hr:=Yt7 q.1.writes A.rise
 have hc:∀ key,Yag (Ybu pairs q.1.writes) key=(P.commit k t p ks).comm key:=fun key=>Y3m A (Ybw.nrm W hp) T key
 have fin:∀ {w':World} {s':Ya4} {log':List Yac},log'=(P.commit k t p ks).log→Yaq w' mb n s' (l.eraseIdx i) (Ybu pairs q.1.writes) other log'→Ya9 w w' mb s s' l (l.eraseIdx i)→Yde w w' mb k (P.commit k t p ks) F b:=fun e h5 h6=>
  Yhq h1 h3 h4 h5 h6 (Yt9 A hi T.id ⟨rfl,rfl⟩ rfl e ⟨_,rfl⟩ (fun u=>rfl) hr hc)
 by_cases hw:q.1.writes=[]
 ·refine (Ywl mb n s l pairs other log t i q w h1 hs A.dead hf hi hw).mono ?_
  rintro e w' ⟨rfl,vp',vt',h5,h6⟩;refine ⟨rfl,fin ?_ h5 h6⟩;show log=P.log ++ Yd6 k P t p ks;have:Yd6 k P t p ks=[]:=by
   unfold Yd6
   cases k with
   | true=>rw [if_pos rfl,if_pos ((T.ups rfl).2.2.2 hw)]
   | false=>
    have hk0:ks=[]:=by
     cases hks':ks with
     | nil=>rfl
     | cons a r=>
      have h7:=((hks rfl).mem a).1 (by rw [hks'];simp);rw [←T.wr,hw] at h7
      cases h7
    rw [if_neg (by simp),if_pos hk0]
  rw [this,List.append_nil];exact A.log
 ·cases k with
  | true=>
   refine (Ywm mb n s l pairs other log t i q w h1 hs hmode A.dead hf hi hw).mono ?_;rintro e w' ⟨rfl,vp',vt',vl',h5,h6⟩;refine ⟨rfl,fin ?_ h5 h6⟩;show log ++ _=P.log ++ Yd6 true P t p ks;unfold Yd6;rw [if_pos rfl,if_neg (fun h=>hw ((T.ups rfl).2.2.1 h)),A.log,T.id,T.last]
  | false=>
   refine (Ywq mb n s l pairs other log t i q w h1 hs hmode A.dead hf hi hw (by omega)).mono ?_;rintro e w' ⟨rfl,vp',vt',vl',h5,h6⟩;refine ⟨rfl,fin ?_ h5 h6⟩;have K:=hks rfl;obtain ⟨k1,k2⟩:=Y3l q.1.writes;have hkeys:(Ydh q.1.writes).map (·.1)=ks:=by
    refine Yo0 (R:=fun a b=>blt a b) (fun _ _=>Yt2) ?_ K.rise (fun x=>?_)
    ·rw [List.pairwise_map];exact Ygr.1 k1
    ·rw [K.mem,←T.wr,Yg2,←k2,Yhp,List.mem_map]
   have hne:ks≠[]:=fun e=>hw (by
    cases hq:q.1.writes with
    | nil=>rfl
    | cons a r=>
     have h7:a.1∈ks:=(K.mem a.1).2 (by rw [←T.wr];exact Yg2.2 (by rw [hq];simp));rw [e] at h7;cases h7)
   have hlen:(Ydh q.1.writes).length=ks.length:=by rw [←hkeys,List.length_map]
   show log ++ Ych q.1 pairs log.length (Ydh q.1.writes) ++ _=P.log ++ Yd6 false P t p ks;unfold Yd6;rw [if_neg (by simp),if_neg hne,List.append_assoc,A.log,hlen,Yl7 T,T.id];have hents:Ych q.1 pairs P.log.length (Ydh q.1.writes)=ks.mapIdx (Yko P t p):=by
    rw [←hkeys];unfold Ych;apply List.ext_getElem?;intro j;rw [List.getElem?_mapIdx,List.getElem?_mapIdx,List.getElem?_map,Option.map_map]
    cases hx:(Ydh q.1.writes)[j]? with
    | none=>rfl
    | some x=>
     have hmem:x.1∈ks:=by rw [←hkeys];exact List.mem_map.2 ⟨x,List.mem_of_getElem? hx,rfl⟩
     have hwr:=(K.mem x.1).1 hmem;show some (Yiw q.1 pairs P.log.length j x.1)=some (Yko P t p j x.1);unfold Yiw Yko Ycc;rw [Yl7 T,T.id,A.comm,T.wr]
     cases hq:p.wrote x.1 with
     | none=>rw [hq] at hwr;cases hwr
     | some c=>rfl
   rw [hents]
theorem Y3x (M:Yc1 w mb k P F b) (W:Wf k P) (ft:Fit P) (hb:b≤1999999999999) (t:Int) (p:TxP) (hp:P.tx t=some p):
 Calls prog 97 #[.pointer (some ⟨mb,0,none⟩),.int .i64 t] w fun e w'=>e=.returned (.int .i64 0)∧Yde w w' mb k (P.abort k t p) F b:=by
 obtain ⟨n,s,l,pairs,other,log,h1,A,h3,h4⟩:=M
 obtain ⟨i,q,hf,hi,T⟩:=A.at' hp
 obtain ⟨hs,hlg,hup⟩:=Yl9 A W ft hb
 have hul:=hup q (List.mem_of_getElem? hi)
 have fin:∀ {w':World} {s':Ya4} {log':List Yac},log'=(P.abort k t p).log→Yaq w' mb n s' (l.eraseIdx i) pairs other log'→Ya9 w w' mb s s' l (l.eraseIdx i)→Yde w w' mb k (P.abort k t p) F b:=fun e h5 h6=>
  Yhq h1 h3 h4 h5 h6 (Yt9 A hi T.id ⟨rfl,rfl⟩ rfl e ⟨_,rfl⟩ (fun u=>rfl) A.rise A.comm)
 cases k with
 | true=>
  have U:=(T.ups rfl).1;rw [←A.log] at U;refine (Yt1 mb n s l pairs other log t i q w h1 hs A.dead hf hi p.ups U (by omega) (by omega)).mono ?_;rintro e w' ⟨rfl,vt',vl',h5,h6⟩;refine ⟨rfl,fin ?_ h5 h6⟩;show log ++ Yjk q.1 log.length p.ups=P.log ++ Yfd t p.last P.log.length p.ups;rw [A.log];congr 1;unfold Yjk Yfd;split
  ·rfl
  ·rw [Yl7 T,T.id]
   congr 1;unfold Ycd Ygy;congr 1;funext j x;unfold Yjj Yol;rw [Yl7 T,T.id]
 | false=>
  have hu:q.1.updates=[]:=T.bare rfl;refine (Yt1 mb n s l pairs other log t i q w h1 hs A.dead hf hi [] ⟨by rw [hu];rfl,fun j hj=>by rw [hu] at hj;simp at hj⟩ (by omega) (by omega)).mono ?_;rintro e w' ⟨rfl,vt',vl',h5,h6⟩;refine ⟨rfl,fin ?_ h5 h6⟩;show log ++ Yjk q.1 log.length []=P.log ++ [];rw [A.log];rfl
theorem Y3y (M:Yc1 w mb k P F b) (W:Wf k P) (h0:Yed P=0):
 Calls prog 98 #[.pointer (some ⟨mb,0,none⟩)] w fun e w'=>e=.returned (.int .i64 0)∧Yde w w' mb k P.check F b:=by
 obtain ⟨n,s,l,pairs,other,log,h1,A,h3,h4⟩:=M
 have hacts:=W.acts
 have hcost:=W.cost
 have hlog:log.length=P.log.length:=by rw [A.log]
 unfold Yed at h0
 have ha:P.acts<120:=by split at h0 <;> omega
 refine (Ywh mb n s l pairs other log w h1 A.dead (by rw [A.nums.2];omega) (by rw [A.nums.2];omega) (by omega)).mono ?_
 rintro e w' ⟨rfl,vl',h5,h6⟩
 refine ⟨rfl,Yhq h1 h3 h4 h5 h6 ⟨A.mode,A.dead,⟨A.nums.1,by show n.actions+1=((P.acts+1:Nat):Int);rw [A.nums.2];omega⟩,by rw [A.log];rfl,A.rise,A.comm,A.cnt,A.few,A.nd,fun q hq=>?_,A.opn⟩⟩
 obtain ⟨p,h7,h8⟩:=A.txs q hq
 exact ⟨p,h7,h8.more _⟩
theorem Y3z (M:Yc1 w mb k P F b) (h0:Yed P≠0):
 Calls prog 98 #[.pointer (some ⟨mb,0,none⟩)] w fun e w'=>e=.returned (.int .i64 (Yed P))∧Yde w w' mb k P F b:=by
 obtain ⟨n,s,l,pairs,other,log,h1,A,h3,h4⟩:=M
 have he:Ygn n=Yed P:=by
  unfold Ygn Yed;rw [A.dead,A.nums.2];simp only [Bool.false_eq_true,if_false];have:((120:Int)≤(P.acts:Int))↔120≤P.acts:=by omega
  simp only [this]
 refine (Ywi mb n s l pairs other log w h1 (by rw [he];exact h0)).mono ?_
 rintro e w' ⟨rfl,rfl⟩
 rw [he]
 exact ⟨rfl,Yjm h1 h3 h4 A (Below.refl _ _)⟩
end
def Yhr (w:World) (a:Nat) (k:Bool) (P:Sp) (F:Nat→Prop) (q:Nat):Prop:=Yb6 w a k P (fun x=>x<w.heap.size∧¬F x) q∧F a∧∀ x,F x→x<w.heap.size
def Y30 (w w':World) (a:Nat) (k:Bool) (P:Sp) (F:Nat→Prop) (q:Nat):Prop:=Yhr w' a k P (Ycx F w w') q∧Below 0 w w'∧∀ x,x<w.heap.size→¬F x→w'.heap[x]? = w.heap[x]?
theorem Yb6.less {Y:Nat→Prop} (h:Yb6 w a k P X q) (hy:∀ x,Y x→X x):Yb6 w a k P Y q:=by
 obtain ⟨s,h1,h2,h3⟩:=h;exact ⟨s,h1,h2,fun x hx=>h3 x (hy x hx)⟩
theorem Yb6.upq (h:Yb6 w a k P X q) (hq:q≤q'):Yb6 w a k P X q':=by
 obtain ⟨s,h1,h2,h3⟩:=h;exact ⟨s,⟨h1.lies,h1.good,fun t x hx=>⟨by have:=(h1.held t x hx).1;omega,(h1.held t x hx).2⟩,h1.cap,h1.haw,h1.hao,h1.ca⟩,h2,h3⟩
theorem Yhr.frame (h:Yhr w a k P F q) (hk:∀ x,F x→w'.heap[x]? = w.heap[x]?) (hs:w.heap.size≤w'.heap.size):Yhr w' a k P F q:=by
 obtain ⟨⟨s,h1,h2,h3⟩,ha,hlt⟩:=h;have hin:∀ tag x,s.blk tag=some x→F x:=fun tag x hx=>Classical.byContradiction fun hn=>(h3 x ⟨h1.lies.lt tag x hx,hn⟩).2 tag hx
 refine ⟨⟨s,⟨h1.lies.frame (fun tag x hx=>hk x (hin tag x hx)) hs,h1.good,h1.held,h1.cap,by have:=h1.haw;omega,h1.hao,(World.cell?_of_block (a:=⟨a,2,none⟩) (hk a ha)).trans h1.ca⟩,h2,fun x hx=>⟨hx.1,fun tag e=>hx.2 (hin tag x e)⟩⟩,ha,fun x hx=>by have:=hlt x hx;omega⟩
theorem Y31 (h:Yhr w a k P F q) (ht:Ycv w w' a k P' (fun x=>x<w.heap.size∧¬F x) q'):Y30 w w' a k P' F q':=by
 obtain ⟨h1,h2,h3⟩:=ht;have hs:=h2.size;refine ⟨⟨h1.less (fun x hx=>?_),.inl h.2.1,fun x hx=>?_⟩,h2,fun x hx hn=>h3 x ⟨hx,hn⟩⟩
 ·have hn:¬F x:=fun hf=>hx.2 (.inl hf)
  refine ⟨?_,hn⟩;by_cases hlt:x<w.heap.size
  ·exact hlt
  ·exact absurd (.inr ⟨by omega,hx.1⟩) hx.2
 ·rcases hx with hx | hx
  ·have:=h.2.2 x hx;omega
  ·exact hx.2
def Yc2 (w:World) (a mb:Nat) (k:Bool) (PS PM:Sp) (F:Nat→Prop) (q b:Nat):Prop:=∃ FS FM,Yhr w a k PS FS q∧Yc1 w mb k PM FM b∧(∀ x,FS x→FM x→False)∧∀ x,F x↔FS x∨FM x
def Ykr (w w':World) (a mb:Nat) (k:Bool) (PS PM:Sp) (F:Nat→Prop) (q b:Nat):Prop:=Yc2 w' a mb k PS PM (Ycx F w w') q b∧Below 0 w w'∧∀ x,x<w.heap.size→¬F x→w'.heap[x]? = w.heap[x]?
abbrev Ydr (w:World) (a mb:Nat) (k:Bool) (P:Sp) (F:Nat→Prop) (q b:Nat):Prop:=Yc2 w a mb k P P F q b
theorem Yc2.lt (h:Yc2 w a mb k PS PM F q b) (x:Nat) (hx:F x):x<w.heap.size:=by
 obtain ⟨FS,FM,h1,h2,_,h4⟩:=h;rcases (h4 x).1 hx with h5 | h5
 ·exact h1.2.2 x h5
 ·obtain ⟨n,s,l,pairs,other,log,_,_,_,h6⟩:=h2
  exact h6 x h5
theorem Yc2.frame (h:Yc2 w a mb k PS PM F q b) (hk:∀ x,F x→w'.heap[x]? = w.heap[x]?) (hs:w.heap.size≤w'.heap.size):Yc2 w' a mb k PS PM F q b:=by
 obtain ⟨FS,FM,h1,h2,h3,h4⟩:=h;exact ⟨FS,FM,h1.frame (fun x hx=>hk x ((h4 x).2 (.inl hx))) hs,h2.frame (fun x hx=>hk x ((h4 x).2 (.inr hx))) hs,h3,h4⟩
theorem Yc2.upq (h:Yc2 w a mb k PS PM F q b) (hq:q≤q') (hb:b≤b'):Yc2 w a mb k PS PM F q' b':=by
 obtain ⟨FS,FM,h1,h2,h3,h4⟩:=h;exact ⟨FS,FM,⟨h1.1.upq hq,h1.2⟩,h2.up hb,h3,h4⟩
theorem Yuc (h:Yc2 w a mb k PS PM F q b):∃ XS,Yb6 w a k PS XS q∧∀ w' PS' q',Ycv w w' a k PS' XS q'→Ykr w w' a mb k PS' PM F q' b:=by
 obtain ⟨FS,FM,h1,h2,h3,h4⟩:=h;refine ⟨_,h1.1,fun w' PS' q' ht=>?_⟩;obtain ⟨k1,k2,k3⟩:=Y31 h1 ht;have hlt:∀ x,FM x→x<w.heap.size:=by obtain ⟨n,s,l,pairs,other,log,_,_,_,h6⟩:=h2;exact h6
 refine ⟨⟨Ycx FS w w',FM,k1,(h2.frame (fun x hx=>k3 x (hlt x hx) (fun hf=>h3 x hf hx)) k2.size),fun x hx hm=>?_,fun x=>?_⟩,k2,fun x hx hn=>k3 x hx (fun hf=>hn ((h4 x).2 (.inl hf)))⟩
 ·rcases hx with hx | hx
  ·exact h3 x hx hm
  ·have:=hlt x hm;omega
 ·unfold Ycx
  rw [h4];constructor
  ·rintro ((h5 | h5) | h5)
   ·exact .inl (.inl h5)
   ·exact .inr h5
   ·exact .inl (.inr h5)
  ·rintro ((h5 | h5) | h5)
   ·exact .inl (.inl h5)
   ·exact .inr h5
   ·exact .inl (.inr h5)
theorem Y32 (h:Yc2 w a mb k PS PM F q b):∃ FM,Yc1 w mb k PM FM b∧∀ w' PM' b',Yde w w' mb k PM' FM b'→Ykr w w' a mb k PS PM' F q b':=by
 obtain ⟨FS,FM,h1,h2,h3,h4⟩:=h;refine ⟨FM,h2,fun w' PM' b' ⟨k1,k2,k3⟩=>?_⟩;have hf:=h1.frame (fun x hx=>k3 x (h1.2.2 x hx) (fun hm=>h3 x hx hm)) k2.size;refine ⟨⟨FS,Ycx FM w w',hf,k1,fun x hx hm=>?_,fun x=>?_⟩,k2,fun x hx hn=>k3 x hx (fun hf=>hn ((h4 x).2 (.inr hf)))⟩
 ·rcases hm with hm | hm
  ·exact h3 x hx hm
  ·have:=h1.2.2 x hx;omega
 ·unfold Ycx
  rw [h4];constructor
  ·rintro ((h5 | h5) | h5)
   ·exact .inl h5
   ·exact .inr (.inl h5)
   ·exact .inr (.inr h5)
  ·rintro (h5 | h5 | h5)
   ·exact .inl (.inl h5)
   ·exact .inl (.inr h5)
   ·exact .inr h5
theorem Yc2.fit (h:Yc2 w a mb k PS PM F q b):Fit PS∧Wf k PS:=by
 obtain ⟨FS,FM,h1,_⟩:=h;exact Y3n h1.1
theorem Yc2.grow (h:Yc2 w a mb k PS PM F q b) (hg:∀ x,F x→G x) (hlt:∀ x,G x→x<w.heap.size):Yc2 w a mb k PS PM G q b:=by
 obtain ⟨FS,FM,h1,⟨n,s,l,pairs,other,log,m1,m2,m3,m4⟩,h3,h4⟩:=h;refine ⟨FS,fun x=>FM x∨(G x∧¬FS x),h1,⟨n,s,l,pairs,other,log,m1,m2,fun x hx=>.inl (m3 x hx),fun x hx=>hx.elim (m4 x) (fun h5=>hlt x h5.1)⟩,fun x hx hm=>hm.elim (h3 x hx) (fun h5=>h5.2 hx),fun x=>?_⟩;constructor
 ·intro hx
  by_cases hs:FS x
  ·exact .inl hs
  ·exact .inr (.inr ⟨hx,hs⟩)
 ·rintro (hx | hx | hx)
  ·exact hg x ((h4 x).2 (.inl hx))
  ·exact hg x ((h4 x).2 (.inr hx))
  ·exact hx.1
structure Yee (w:World) (pb a mb:Nat) (F:Nat→Prop):Prop where
 cell:w.heap[pb]? = some (.cells #[.pointer (some ⟨a,0,none⟩),.pointer (some ⟨mb,0,none⟩),.bool false] 83 (0,0))
 out:¬F pb
structure Ybd (w W:World) (pb a mb:Nat) (k:Bool) (PS PM:Sp) (F:Nat→Prop) (q b:Nat) (B:Nat→Prop):Prop where
 half:∃ G,Yc2 W a mb k PS PM G q b∧(∀ x,G x→Ycx F w W x)∧(∀ x,B x→¬G x)
 cell:W.heap[pb]? = some (.cells #[.pointer (some ⟨a,0,none⟩),.pointer (some ⟨mb,0,none⟩),.bool false] 83 (0,0))
 below:Below 0 w W
 off:∀ x,x<w.heap.size→¬F x→W.heap[x]? = w.heap[x]?
theorem Ybd.start (h:Ydr w a mb k P F q b) (hp:Yee w pb a mb F):Ybd w w pb a mb k P P F q b (fun _=>False):=
 ⟨⟨F,h,fun _ hx=>.inl hx,fun _ hx=>hx.elim⟩,hp.cell,Below.refl _ _,fun _ _ _=>rfl⟩
theorem Ybd.new (h:Ybd w W pb a mb k PS PM F q b B) (hb:Below W.heap.size W W'):Ybd w W' pb a mb k PS PM F q b (fun x=>B x∨(W.heap.size≤x∧x<W'.heap.size)):=by
 obtain ⟨⟨G,h1,h2,h3⟩,h4,h5,h6⟩:=h;have hs:=hb.size;refine ⟨⟨G,h1.frame (fun x hx=>hb.block x (h1.lt x hx)) hs,fun x hx=>?_,fun x hx hg=>?_⟩,(hb.block pb (Yaz h4)).trans h4,h5.trans (hb.mono (Nat.zero_le _)),fun x hx hn=>(hb.block x (by have:=h5.size;omega)).trans (h6 x hx hn)⟩
 ·rcases h2 x hx with h7 | h7
  ·exact .inl h7
  ·exact .inr ⟨h7.1,by omega⟩
 ·rcases hx with hx | hx
  ·exact h3 x hx hg
  ·have:=h1.lt x hg;omega
theorem Ybd.drew (h:Ybd w W pb a mb k PS PM F q b B):Ybd w W.drew pb a mb k PS PM F q b B:=by
 obtain ⟨⟨G,h1,h2,h3⟩,h4,h5,h6⟩:=h;exact ⟨⟨G,h1.frame (fun _ _=>rfl) (Nat.le_refl _),h2,h3⟩,h4,h5.drew,h6⟩
theorem Ybd.then {QS QM:Sp} (h4:W.heap[pb]? = some (.cells #[.pointer (some ⟨a,0,none⟩),.pointer (some ⟨mb,0,none⟩),.bool false] 83 (0,0))) (h5:Below 0 w W) (h6:∀ x,x<w.heap.size→¬F x→W.heap[x]? = w.heap[x]?) (hpw:pb<w.heap.size) (hpb:¬F pb) (h2:∀ x,G x→Ycx F w W x) (h3:∀ x,B x→¬G x) (hB:∀ x,B x→x<W.heap.size) (h:Ykr W W' a mb k QS QM G q' b'):Ybd w W' pb a mb k QS QM F q' b' B∧∀ x,B x→W'.heap[x]? = W.heap[x]?:=by
 obtain ⟨k1,k2,k3⟩:=h;have hs:=k2.size;have hs5:=h5.size;have hG:∀ x,x<w.heap.size→¬F x→¬G x:=fun x hx hn hg=>(h2 x hg).elim hn (fun h7=>by omega)
 refine ⟨⟨⟨Ycx G W W',k1,fun x hx=>?_,fun x hx hg=>?_⟩,(k3 pb (Yaz h4) (hG pb hpw hpb)).trans h4,h5.trans k2,fun x hx hn=>(k3 x (by omega) (hG x hx hn)).trans (h6 x hx hn)⟩,fun x hx=>k3 x (hB x hx) (h3 x hx)⟩
 ·rcases hx with hx | hx
  ·rcases h2 x hx with h7 | h7
   ·exact .inl h7
   ·exact .inr ⟨h7.1,by omega⟩
  ·exact .inr ⟨by omega,hx.2⟩
 ·rcases hg with hg | hg
  ·exact h3 x hx hg
  ·have:=hB x hx;omega
theorem Ybd.store (h:Ybd w W pb a mb k PS PM F q b B) (hpw:pb<w.heap.size) (hpb:¬F pb) (hB:∀ x,B x→x<W.heap.size):∃ XS,Yb6 W a k PS XS q∧∀ W' PS' q',Ycv W W' a k PS' XS q'→Ybd w W' pb a mb k PS' PM F q' b B∧∀ x,B x→W'.heap[x]? = W.heap[x]?:=by
 obtain ⟨⟨G,h1,h2,h3⟩,h4,h5,h6⟩:=h;obtain ⟨XS,k1,k2⟩:=Yuc h1;exact ⟨XS,k1,fun W' PS' q' ht=>Ybd.then h4 h5 h6 hpw hpb h2 h3 hB (k2 W' PS' q' ht)⟩
theorem Ybd.mod (h:Ybd w W pb a mb k PS PM F q b B) (hpw:pb<w.heap.size) (hpb:¬F pb) (hB:∀ x,B x→x<W.heap.size):∃ FM,Yc1 W mb k PM FM b∧∀ W' PM' b',Yde W W' mb k PM' FM b'→Ybd w W' pb a mb k PS PM' F q b' B∧∀ x,B x→W'.heap[x]? = W.heap[x]?:=by
 obtain ⟨⟨G,h1,h2,h3⟩,h4,h5,h6⟩:=h;obtain ⟨FM,k1,k2⟩:=Y32 h1;exact ⟨FM,k1,fun W' PM' b' ht=>Ybd.then h4 h5 h6 hpw hpb h2 h3 hB (k2 W' PM' b' ht)⟩
theorem Ybd.fin (h:Ybd w W pb a mb k P P F q b B) (hF:∀ x,F x→x<w.heap.size):Ykr w W a mb k P P F q b:=by
 obtain ⟨⟨G,h1,h2,_⟩,_,h5,h6⟩:=h;have hs:=h5.size;exact ⟨h1.grow h2 (fun x hx=>hx.elim (fun h7=>by have:=hF x h7;omega) (fun h7=>h7.2)),h5,h6⟩
theorem Ybd.fit (h:Ybd w W pb a mb k PS PM F q b B):Fit PS∧Wf k PS:=by
 obtain ⟨⟨G,h1,_⟩,_⟩:=h;exact h1.fit
def Yce (w w':World) (a mb:Nat) (k:Bool) (F:Nat→Prop) (q:Nat):Prop:=∃ P',Ykr w w' a mb k P' P' F (q+1) (q+1)
theorem Y33 (h:Ydr w a mb k P F q q) (hp:Yee w pb a mb F) (o:OpV) (ho:o.kind=2):
 Calls prog 65 #[.pointer (some ⟨pb,0,none⟩),.agg o.cells.toArray] w fun e w'=>e=.returned (.bool true)∧Yce w w' a mb k F q:=by
 obtain ⟨kind,on,om,t,key,val,keep,tear,fuse⟩:=o
 simp only at ho
 subst ho
 simp only [OpV.cells]
 have hpw:pb<w.heap.size:=Yaz hp.cell
 have hF:∀ x,F x→x<w.heap.size:=fun x hx=>h.lt x hx
 obtain ⟨W0,hW0⟩:∃ W0,W0=w.alloc (.cells #[.int .i64 2,.int .i64 on,.int .i64 om,.int .i64 t,.string key,.string val,.int .u64 keep,.int .i64 tear,.int .i64 fuse] 80):=⟨_,rfl⟩
 have hR0:Ybd w W0 pb a mb k P P F q q (fun x=>False∨(w.heap.size≤x∧x<W0.heap.size)):=(Ybd.start h hp).new (by rw [hW0];exact (Below.refl _ _).alloc (Nat.le_refl _) _)
 have HR0:=Yh hR0
 obtain ⟨ft,wf⟩:=h.fit
 have c0:W0.cell? ⟨w.heap.size,0,none⟩=some (.int .i64 2):=by rw [hW0];exact Yaa (heap_alloc_new w _) rfl
 have p0:W0.cell? ⟨pb,0,none⟩=some (.pointer (some ⟨a,0,none⟩)):=Yaa (j:=0) hR0.cell rfl
 obtain ⟨tt,ee,hte⟩:∃ tt ee:Int,tt=(if Ydd P=0 then (P.next:Int)+1 else 0)∧ee=Ydd P:=⟨_,_,rfl,rfl⟩
 have hee:ee≠4:=by
  rw [hte.2];unfold Ydd;split
  ·omega
  ·split <;> omega
 obtain ⟨P',hP'⟩:∃ P',P'=if Ydd P=0 then P.begin else P:=⟨_,rfl⟩
 have KB:Hid (Calls prog 19 #[.pointer (some ⟨a,0,none⟩)] W0 fun e w'=>e=.returned (.tuple #[.int .i64 tt,.int .i64 ee])∧Ybd w w' pb a mb k P' P F q q (fun _=>False)):=by
  obtain ⟨XS,k1,k2⟩:=hR0.store hpw hp.out (fun x hx=>hx.elim False.elim (fun h9=>h9.2));refine (Ytv k1).mono ?_;rintro e w' (⟨h5,h6,h7⟩ | ⟨h5,h6,h7⟩)
  ·obtain ⟨r1,_⟩:=k2 w' _ q h7
   rw [hP',if_pos h5,hte.1,hte.2,if_pos h5,h5];exact ⟨h6,⟨r1.half.imp fun G hG=>⟨hG.1,hG.2.1,fun _ hx=>hx.elim⟩,r1.cell,r1.below,r1.off⟩⟩
  ·obtain ⟨r1,_⟩:=k2 w' _ q h7
   rw [hP',if_neg h5,hte.1,hte.2,if_neg h5];exact ⟨h6,⟨r1.half.imp fun G hG=>⟨hG.1,hG.2.1,fun _ hx=>hx.elim⟩,r1.cell,r1.below,r1.off⟩⟩
 have KM:Hid (∀ W,Ybd w W pb a mb k P' P F q q (fun _=>False)→Calls prog 93 #[.pointer (some ⟨mb,0,none⟩)] W fun e w'=>e=.returned (.tuple #[.int .i64 tt,.int .i64 ee])∧Yce w w' a mb k F q):=fun W hW=>by
  obtain ⟨FM,k1,k2⟩:=hW.mod hpw hp.out (fun _ hx=>hx.elim);by_cases h5:Ydd P=0
  ·refine (Y3o k1 wf h5).mono ?_
   rintro e w' ⟨h6,h7⟩;obtain ⟨r1,_⟩:=k2 w' _ q h7;rw [hP',if_pos h5] at r1;have h8:=r1.fin hF;rw [hte.1,hte.2,if_pos h5,h5];exact ⟨h6,P.begin,h8.1.upq (by omega) (by omega),h8.2⟩
  ·refine (Y3p k1 h5).mono ?_
   rintro e w' ⟨h6,h7⟩;obtain ⟨r1,_⟩:=k2 w' _ q h7;rw [hP',if_neg h5] at r1;have h8:=r1.fin hF;rw [hte.1,hte.2,if_neg h5];exact ⟨h6,P,h8.1.upq (by omega) (by omega),h8.2⟩
 have hpe:¬ee=4:=hee
 have heq:(ee == 4)=false:=by simpa using hee
 generalize Yce w=AX at KM ⊢
 clear hte hP' hR0 ft wf h hp hee
 go_enter func65,ntmps65
 go_upto_region 1 with fail
 rw [←hW0]
 clear hW0
 go_wp2_with (first
  | (go_at_call 19;go_must (
   refine KB.out.mono ?_;rintro e w1 ⟨rfl,hr1⟩;have HR1:=Yh hr1;have p1:w1.cell? ⟨pb,1,none⟩=some (.pointer (some ⟨mb,0,none⟩)):=Yaa (j:=1) hr1.cell rfl;clear hr1))
  | (go_at_call 93;go_must (
   refine (KM.out w1 HR1.out).mono ?_;rintro e w2 ⟨rfl,hx⟩;have HX:=Yh hx;clear hx)))
 go_ret
 exact ⟨rfl,HX.out⟩
structure Yjn (w W0 w1:World) (pb a mb:Nat) (k:Bool) (F:Nat→Prop) (q:Nat) (B:Nat→Prop) (fn:Nat) (args:Array Value) (r:Value):Prop where
 cell:w1.heap[pb]? = some (.cells #[.pointer (some ⟨a,0,none⟩),.pointer (some ⟨mb,0,none⟩),.bool false] 83 (0,0))
 kept:∀ x,B x→w1.heap[x]? = W0.heap[x]?
 size:W0.heap.size≤w1.heap.size
 next:∀ W,Below w1.heap.size w1 W→Calls prog fn args W fun e w'=>e=.returned r∧Yce w w' a mb k F q∧w'.heap[pb]? = some (.cells #[.pointer (some ⟨a,0,none⟩),.pointer (some ⟨mb,0,none⟩),.bool false] 83 (0,0))∧∀ x,(B x∨(w1.heap.size≤x∧x<W.heap.size))→w'.heap[x]? = W.heap[x]?
theorem Yhs {W0:World} {q1 b1 b2:Nat} {fn:Nat} {args:Array Value} {r:Value} (hR:Ybd w w1 pb a mb k P' P F q1 b1 B) (hk:∀ x,B x→w1.heap[x]? = W0.heap[x]?) (hsz:W0.heap.size≤w1.heap.size) (hpw:pb<w.heap.size) (hpb:¬F pb) (hB:∀ x,B x→x<W0.heap.size) (hF:∀ x,F x→x<w.heap.size) (hq:q1≤q+1) (hb2:b2≤q+1)
 (hM:∀ W FM,Yc1 W mb k P FM b1→Calls prog fn args W fun e w'=>e=.returned r∧Yde W w' mb k P' FM b2):Yjn w W0 w1 pb a mb k F q B fn args r:=by
 refine ⟨hR.cell,hk,hsz,fun W hW=>?_⟩
 have hR2:=hR.new hW
 obtain ⟨FM,k1,k2⟩:=hR2.mod hpw hpb (fun x hx=>hx.elim (fun h1=>by have:=hB x h1;have:=hW.size;omega) (fun h1=>h1.2))
 refine (hM W FM k1).mono ?_
 rintro e w' ⟨h1,h2⟩
 obtain ⟨r1,r2⟩:=k2 w' P' b2 h2
 have h8:=r1.fin hF
 exact ⟨h1,⟨P',h8.1.upq hq hb2,h8.2⟩,r1.cell,r2⟩
section
variable {w W0:World} {pb a mb:Nat} {k:Bool} {P:Sp} {F:Nat→Prop} {q:Nat} {B:Nat→Prop}
theorem Y34 (hR:Ybd w W0 pb a mb k P P F q q B) (hpw:pb<w.heap.size) (hpb:¬F pb) (hB:∀ x,B x→x<W0.heap.size) (hF:∀ x,F x→x<w.heap.size) (hq:q≤1999999999998) (t:Int) (ht:Yax t):
 Calls prog 21 #[.pointer (some ⟨a,0,none⟩),.int .i64 t] W0 fun e w1=>∃ c:Int,e=.returned (.int .i64 c)∧c≠4∧Yjn w W0 w1 pb a mb k F q B 96 #[.pointer (some ⟨mb,0,none⟩),.int .i64 t] (.int .i64 c):=by
 obtain ⟨ft,wf⟩:=hR.fit
 obtain ⟨XS,k1,k2⟩:=hR.store hpw hpb hB
 cases hp:P.tx t with
 | none=>
  refine (Y2y k1 t ht hp).mono ?_;rintro e w1 ⟨h1,h2⟩;obtain ⟨r1,r2⟩:=k2 w1 P q h2;exact ⟨5,h1,by omega,Yhs r1 r2 h2.2.1.size hpw hpb hB hF (by omega) (by omega) (fun W FM hm=>Y3u hm t hp)⟩
 | some p=>
  refine (Y2j k1 t p hp).mono ?_;rintro e w1 ⟨h1,ks,hks,h2⟩;obtain ⟨r1,r2⟩:=k2 w1 _ q h2;exact ⟨0,h1,by omega,Yhs r1 r2 h2.2.1.size hpw hpb hB hF (by omega) (by omega) (fun W FM hm=>Y3w hm wf ft (by omega) t p hp ks hks)⟩
theorem Y35 (hR:Ybd w W0 pb a mb k P P F q q B) (hpw:pb<w.heap.size) (hpb:¬F pb) (hB:∀ x,B x→x<W0.heap.size) (hF:∀ x,F x→x<w.heap.size) (hq:q≤1999999999998) (t:Int) (ht:Yax t):
 Calls prog 25 #[.pointer (some ⟨a,0,none⟩),.int .i64 t] W0 fun e w1=>∃ c:Int,e=.returned (.int .i64 c)∧c≠4∧Yjn w W0 w1 pb a mb k F q B 97 #[.pointer (some ⟨mb,0,none⟩),.int .i64 t] (.int .i64 c):=by
 obtain ⟨ft,wf⟩:=hR.fit
 obtain ⟨XS,k1,k2⟩:=hR.store hpw hpb hB
 cases hp:P.tx t with
 | none=>
  refine (Y2z k1 t ht hp).mono ?_;rintro e w1 ⟨h1,h2⟩;obtain ⟨r1,r2⟩:=k2 w1 P q h2;exact ⟨5,h1,by omega,Yhs r1 r2 h2.2.1.size hpw hpb hB hF (by omega) (by omega) (fun W FM hm=>Y3v hm t hp)⟩
 | some p=>
  refine (Y2o k1 t p hp).mono ?_;rintro e w1 ⟨h1,h2⟩;obtain ⟨r1,r2⟩:=k2 w1 _ q h2;exact ⟨0,h1,by omega,Yhs r1 r2 h2.2.1.size hpw hpb hB hF (by omega) (by omega) (fun W FM hm=>Y3x hm wf ft (by omega) t p hp)⟩
theorem Y36 (hR:Ybd w W0 pb a mb k P P F q q B) (hpw:pb<w.heap.size) (hpb:¬F pb) (hB:∀ x,B x→x<W0.heap.size) (hF:∀ x,F x→x<w.heap.size):
 Calls prog 32 #[.pointer (some ⟨a,0,none⟩)] W0 fun e w1=>∃ c:Int,e=.returned (.int .i64 c)∧c≠4∧Yjn w W0 w1 pb a mb k F q B 98 #[.pointer (some ⟨mb,0,none⟩)] (.int .i64 c):=by
 obtain ⟨ft,wf⟩:=hR.fit
 obtain ⟨XS,k1,k2⟩:=hR.store hpw hpb hB
 refine (Y3b k1).mono ?_
 rintro e w1 ⟨h1,h2⟩
 rcases h2 with ⟨h3,h2⟩ | ⟨h3,h2⟩
 ·obtain ⟨r1,r2⟩:=k2 w1 _ q h2
  rw [h3] at h1;exact ⟨0,h1,by omega,Yhs r1 r2 h2.2.1.size hpw hpb hB hF (by omega) (by omega) (fun W FM hm=>Y3y hm wf h3)⟩
 ·obtain ⟨r1,r2⟩:=k2 w1 _ q h2
  refine ⟨Yed P,h1,by unfold Yed;split <;> omega,Yhs r1 r2 h2.2.1.size hpw hpb hB hF (by omega) (by omega) (fun W FM hm=>Y3z hm h3)⟩
end
section
variable {w W0:World} {pb a mb:Nat} {k:Bool} {P:Sp} {F:Nat→Prop} {q:Nat} {B:Nat→Prop}
theorem Yud (hR:Ybd w W0 pb a mb k P P F q q B) (hpw:pb<w.heap.size) (hpb:¬F pb) (hB:∀ x,B x→x<W0.heap.size) (hF:∀ x,F x→x<w.heap.size) (hq:q≤1999999999998) (t:Int) (ht:Yax t) (key:ByteArray) (hks:key.size≤140737488355328) (c:Bool×ByteArray) (hn:Ydj c=c) (hvs:c.2.size≤140737488355328):
 Calls prog 42 #[.pointer (some ⟨a,0,none⟩),.int .i64 t,.string key,.agg #[.bool c.1,.string c.2]] W0 fun e w1=>∃ r:Int,e=.returned (.int .i64 r)∧r≠4∧Yjn w W0 w1 pb a mb k F q B 132 #[.pointer (some ⟨mb,0,none⟩),.int .i64 t,.string key,.agg #[.bool c.1,.string c.2]] (.int .i64 r):=by
 obtain ⟨ft,wf⟩:=hR.fit
 obtain ⟨XS,k1,k2⟩:=hR.store hpw hpb hB
 rcases Y19 (P:=P) t key c hn with ⟨p,m⟩ | ⟨r,hr⟩
 ·refine (Y2e k1 (by omega) t p key c m).mono ?_
  rintro e w1 ⟨h1,h2⟩;obtain ⟨r1,r2⟩:=k2 w1 _ (q+1) h2;exact ⟨0,h1,by omega,Yhs r1 r2 h2.2.1.size hpw hpb hB hF (by omega) (by omega) (fun W FM hm=>Y3s hm wf ft (by omega) t p key c m)⟩
 ·refine (Y18 k1 (by omega) t ht key hks c hvs r hr).mono ?_
  rintro e w1 ⟨h1,h2⟩;obtain ⟨r1,r2⟩:=k2 w1 P q h2;refine ⟨r,h1,?_,Yhs r1 r2 h2.2.1.size hpw hpb hB hF (by omega) (by omega) (fun W FM hm=>Y3t hm wf ft (by omega) t key c hvs r hr)⟩;rcases hr with ⟨_,h3⟩ | ⟨_,_,h3⟩ | ⟨_,_,_,h3⟩ | ⟨_,_,_,_,h3⟩
  ·rw [h3]
   unfold Yc0 Ya8;split
   ·omega
   ·split <;> omega
  all_goals omega
theorem Yue (c:Int) (hc:c≠4) (kind on om t:Int) (key val:ByteArray) (keep tear fuse:Int) (is:Bool) (v:ByteArray) (M:Yjn w W0 w1 pb a mb k F q B 132 #[.pointer (some ⟨mb,0,none⟩),.int .i64 t,.string key,.agg #[.bool is,.string v]] (.int .i64 c)) (W:World) (hW:Below w1.heap.size w1 W):
 Calls prog 95 #[.pointer (some ⟨pb,0,none⟩),.int .i64 c,.agg #[.int .i64 kind,.int .i64 on,.int .i64 om,.int .i64 t,.string key,.string val,.int .u64 keep,.int .i64 tear,.int .i64 fuse],.agg #[.bool is,.string v]] W fun e w'=>e=.returned (.bool true)∧Yce w w' a mb k F q:=by
 have hpb1:pb<w1.heap.size:=Yaz M.cell
 have hpW:W.heap[pb]? = _:=(hW.block pb hpb1).trans M.cell
 have p1:W.cell? ⟨pb,1,none⟩=some (.pointer (some ⟨mb,0,none⟩)):=Yaa (j:=1) hpW rfl
 obtain ⟨W2,hW2⟩:∃ W2,W2=(W.alloc (.cells #[.int .i64 kind,.int .i64 on,.int .i64 om,.int .i64 t,.string key,.string val,.int .u64 keep,.int .i64 tear,.int .i64 fuse] 80)).alloc (.cells #[.bool is,.string v] 38):=⟨_,rfl⟩
 have hb2:Below W.heap.size W W2:=by rw [hW2];exact ((Below.refl _ _).alloc (Nat.le_refl _) _).alloc (by simp) _
 have hpw:pb<W.heap.size:=Yaz hpW
 have q1:W2.cell? ⟨pb,1,none⟩=some (.pointer (some ⟨mb,0,none⟩)):=(hb2.cell hpw).trans p1
 have g0:W2.heap[W.heap.size]? = some (.cells #[.int .i64 kind,.int .i64 on,.int .i64 om,.int .i64 t,.string key,.string val,.int .u64 keep,.int .i64 tear,.int .i64 fuse] 80 (0,0)):=by rw [hW2,Below.heap_alloc _ _ _ (by simp)];exact heap_alloc_new _ _
 have g1:W2.heap[W.heap.size+1]? = some (.cells #[.bool is,.string v] 38 (0,0)):=by rw [hW2];simpa using heap_alloc_new (W.alloc (.cells #[.int .i64 kind,.int .i64 on,.int .i64 om,.int .i64 t,.string key,.string val,.int .u64 keep,.int .i64 tear,.int .i64 fuse] 80)) _
 have q3:W2.cell? ⟨W.heap.size,3,none⟩=some (.int .i64 t):=Yaa g0 rfl
 have q4:W2.cell? ⟨W.heap.size,4,none⟩=some (.string key):=Yaa g0 rfl
 have q5:W2.cell? ⟨W.heap.size+1,0,none⟩=some (.bool is):=Yaa g1 rfl
 have q6:W2.cell? ⟨W.heap.size+1,1,none⟩=some (.string v):=Yaa g1 rfl
 have hBW2:Below w1.heap.size w1 W2:=hW.trans (hb2.mono hW.size)
 have hz2:W2.heap.size=W.heap.size+2:=by rw [hW2];simp
 have KC:Hid (Calls prog 132 #[.pointer (some ⟨mb,0,none⟩),.int .i64 t,.string key,.agg #[.bool is,.string v]] W2.drew fun e w'=>e=.returned (.int .i64 c)∧Yce w w' a mb k F q∧w'.cell? ⟨pb,1,none⟩=some (.pointer (some ⟨mb,0,none⟩))∧w'.cell? ⟨W.heap.size,3,none⟩=some (.int .i64 t)∧w'.cell? ⟨W.heap.size,4,none⟩=some (.string key)∧w'.cell? ⟨W.heap.size+1,0,none⟩=some (.bool is)∧w'.cell? ⟨W.heap.size+1,1,none⟩=some (.string v)):=by
  refine (M.next W2.drew hBW2.drew).mono ?_;rintro e w' ⟨h1,h2,h3,h4⟩;have hs:=hW.size;have z0:=(h4 W.heap.size (.inr ⟨hs,by show _<W2.heap.size;omega⟩)).trans g0;have z1:=(h4 (W.heap.size+1) (.inr ⟨by omega,by show _<W2.heap.size;omega⟩)).trans g1;exact ⟨h1,h2,Yaa (j:=1) h3 rfl,Yaa (j:=3) z0 rfl,Yaa (j:=4) z0 rfl,Yaa (j:=0) z1 rfl,Yaa (j:=1) z1 rfl⟩
 have heq:(c == 4)=false:=by simpa using hc
 clear M hW hpW hb2 g0 g1 hBW2 p1 hpb1
 generalize Yce w=AX at KC ⊢
 go_enter func95,ntmps95
 go_upto_region 1 with fail
 rw [←hW2]
 clear hW2
 go_upto_region 3 with fail
 go_region_held3 (fun w'=>w'.cell? ⟨pb,1,none⟩=some (.pointer (some ⟨mb,0,none⟩))∧w'.cell? ⟨W.heap.size,3,none⟩=some (.int .i64 t)∧w'.cell? ⟨W.heap.size,4,none⟩=some (.string key)∧w'.cell? ⟨W.heap.size+1,0,none⟩=some (.bool is)∧w'.cell? ⟨W.heap.size+1,1,none⟩=some (.string v))
  (go_keep)
  (first
   | (go_at_call 132;go_must (
    refine KC.out.mono ?_;rintro e w2 ⟨rfl,hx,s1,s2,s3,s4,s5⟩;have HX:=Yh hx;clear hx)))
 all_goals
  go_wp2;go_ret;exact ⟨rfl,HX.out⟩
end
theorem Y37 (h:Ydr w a mb k P F q q) (hp:Yee w pb a mb F) (hq:q≤1999999999998) (o:OpV) (ho:o.kind=6) (hot:Yax o.t) (hok:o.key.size≤140737488355328) (hov:o.val.size≤140737488355328):
 Calls prog 65 #[.pointer (some ⟨pb,0,none⟩),.agg o.cells.toArray] w fun e w'=>e=.returned (.bool true)∧Yce w w' a mb k F q:=by
 obtain ⟨kind,on,om,t,key,val,keep,tear,fuse⟩:=o
 simp only at ho hot hok hov
 subst ho
 simp only [OpV.cells]
 have hpw:pb<w.heap.size:=Yaz hp.cell
 have hF:∀ x,F x→x<w.heap.size:=fun x hx=>h.lt x hx
 obtain ⟨W0,hW0⟩:∃ W0,W0=w.alloc (.cells #[.int .i64 6,.int .i64 on,.int .i64 om,.int .i64 t,.string key,.string val,.int .u64 keep,.int .i64 tear,.int .i64 fuse] 80):=⟨_,rfl⟩
 have hR0:Ybd w W0 pb a mb k P P F q q (fun x=>False∨(w.heap.size≤x∧x<W0.heap.size)):=(Ybd.start h hp).new (by rw [hW0];exact (Below.refl _ _).alloc (Nat.le_refl _) _)
 have hz0:W0.heap.size=w.heap.size+1:=by rw [hW0];simp
 have hg0:W0.heap[w.heap.size]? = some (.cells #[.int .i64 6,.int .i64 on,.int .i64 om,.int .i64 t,.string key,.string val,.int .u64 keep,.int .i64 tear,.int .i64 fuse] 80 (0,0)):=by rw [hW0];exact heap_alloc_new w _
 have hBB:∀ x,(False∨(w.heap.size≤x∧x<W0.heap.size))→x<W0.heap.size:=fun x hx=>hx.elim False.elim (fun h9=>h9.2)
 have hIn:False∨(w.heap.size≤w.heap.size∧w.heap.size<W0.heap.size):=.inr ⟨Nat.le_refl _,by omega⟩
 have c0:W0.cell? ⟨w.heap.size,0,none⟩=some (.int .i64 6):=Yaa hg0 rfl
 have c3:W0.cell? ⟨w.heap.size,3,none⟩=some (.int .i64 t):=Yaa hg0 rfl
 have c4:W0.cell? ⟨w.heap.size,4,none⟩=some (.string key):=Yaa hg0 rfl
 have c5:W0.cell? ⟨w.heap.size,5,none⟩=some (.string val):=Yaa hg0 rfl
 have p0:W0.cell? ⟨pb,0,none⟩=some (.pointer (some ⟨a,0,none⟩)):=Yaa (j:=0) hR0.cell rfl
 have KB:Hid (Calls prog 21 #[.pointer (some ⟨a,0,none⟩),.int .i64 t] W0.drew fun e w1=>∃ c:Int,e=.returned (.int .i64 c)∧(c == 4)=false∧w1.cell? ⟨pb,0,none⟩=some (.pointer (some ⟨a,0,none⟩))∧w1.cell? ⟨pb,1,none⟩=some (.pointer (some ⟨mb,0,none⟩))∧w1.cell? ⟨w.heap.size,3,none⟩=some (.int .i64 t) ∧
  Calls prog 96 #[.pointer (some ⟨mb,0,none⟩),.int .i64 t] w1.drew fun e w'=>e=.returned (.int .i64 c)∧Yce w w' a mb k F q∧w'.cell? ⟨pb,1,none⟩=some (.pointer (some ⟨mb,0,none⟩))∧w'.cell? ⟨w.heap.size,3,none⟩=some (.int .i64 t)):=by
  refine (Y34 hR0.drew hpw hp.out hBB hF hq t hot).mono ?_
  rintro e w1 ⟨c,h1,h2,M⟩
  have hk:w1.heap[w.heap.size]? = _:=(M.kept w.heap.size hIn).trans hg0
  refine ⟨c,h1,by simpa using h2,Yaa (j:=0) M.cell rfl,Yaa (j:=1) M.cell rfl,Yaa (j:=3) hk rfl,(M.next w1.drew (Below.refl _ _).drew).mono ?_⟩
  rintro e' w' ⟨h3,h4,h5,h6⟩
  have hk':w'.heap[w.heap.size]? = _:=(h6 w.heap.size (.inl hIn)).trans hk
  exact ⟨h3,h4,Yaa (j:=1) h5 rfl,Yaa (j:=3) hk' rfl⟩
 generalize Yce w=AX at KB ⊢
 clear hR0 h hp hBB hIn hg0 hF hz0
 go_enter func65,ntmps65
 go_upto_region 1 with fail
 rw [←hW0]
 clear hW0
 go_upto_region 21 with fail
 go_region_held3 (fun w'=>w'.cell? ⟨pb,0,none⟩=some (.pointer (some ⟨a,0,none⟩))∧w'.cell? ⟨w.heap.size,3,none⟩=some (.int .i64 t))
  (go_keep)
  (first
   | (go_at_call 21;go_must (
    refine KB.out.mono ?_;rintro e w1 ⟨c,rfl,heq,d0,d1,d3,hm⟩;have KM:=Yh hm;clear hm)))
 all_goals
  go_upto_region 24 with fail
  go_region_held3 (fun w'=>w'.cell? ⟨pb,1,none⟩=some (.pointer (some ⟨mb,0,none⟩))∧w'.cell? ⟨w.heap.size,3,none⟩=some (.int .i64 t))
   (go_keep)
   (first
    | (go_at_call 96;go_must (
     refine KM.out.mono ?_;rintro e w2 ⟨rfl,hx,s1,s2⟩;have HX:=Yh hx;clear hx)))
  all_goals
   go_wp2;go_ret;exact ⟨rfl,HX.out⟩
theorem Y38 (h:Ydr w a mb k P F q q) (hp:Yee w pb a mb F) (hq:q≤1999999999998) (o:OpV) (ho:o.kind=7) (hot:Yax o.t) (hok:o.key.size≤140737488355328) (hov:o.val.size≤140737488355328):
 Calls prog 65 #[.pointer (some ⟨pb,0,none⟩),.agg o.cells.toArray] w fun e w'=>e=.returned (.bool true)∧Yce w w' a mb k F q:=by
 obtain ⟨kind,on,om,t,key,val,keep,tear,fuse⟩:=o
 simp only at ho hot hok hov
 subst ho
 simp only [OpV.cells]
 have hpw:pb<w.heap.size:=Yaz hp.cell
 have hF:∀ x,F x→x<w.heap.size:=fun x hx=>h.lt x hx
 obtain ⟨W0,hW0⟩:∃ W0,W0=w.alloc (.cells #[.int .i64 7,.int .i64 on,.int .i64 om,.int .i64 t,.string key,.string val,.int .u64 keep,.int .i64 tear,.int .i64 fuse] 80):=⟨_,rfl⟩
 have hR0:Ybd w W0 pb a mb k P P F q q (fun x=>False∨(w.heap.size≤x∧x<W0.heap.size)):=(Ybd.start h hp).new (by rw [hW0];exact (Below.refl _ _).alloc (Nat.le_refl _) _)
 have hz0:W0.heap.size=w.heap.size+1:=by rw [hW0];simp
 have hg0:W0.heap[w.heap.size]? = some (.cells #[.int .i64 7,.int .i64 on,.int .i64 om,.int .i64 t,.string key,.string val,.int .u64 keep,.int .i64 tear,.int .i64 fuse] 80 (0,0)):=by rw [hW0];exact heap_alloc_new w _
 have hBB:∀ x,(False∨(w.heap.size≤x∧x<W0.heap.size))→x<W0.heap.size:=fun x hx=>hx.elim False.elim (fun h9=>h9.2)
 have hIn:False∨(w.heap.size≤w.heap.size∧w.heap.size<W0.heap.size):=.inr ⟨Nat.le_refl _,by omega⟩
 have c0:W0.cell? ⟨w.heap.size,0,none⟩=some (.int .i64 7):=Yaa hg0 rfl
 have c3:W0.cell? ⟨w.heap.size,3,none⟩=some (.int .i64 t):=Yaa hg0 rfl
 have c4:W0.cell? ⟨w.heap.size,4,none⟩=some (.string key):=Yaa hg0 rfl
 have c5:W0.cell? ⟨w.heap.size,5,none⟩=some (.string val):=Yaa hg0 rfl
 have p0:W0.cell? ⟨pb,0,none⟩=some (.pointer (some ⟨a,0,none⟩)):=Yaa (j:=0) hR0.cell rfl
 have KB:Hid (Calls prog 25 #[.pointer (some ⟨a,0,none⟩),.int .i64 t] W0.drew fun e w1=>∃ c:Int,e=.returned (.int .i64 c)∧(c == 4)=false∧w1.cell? ⟨pb,0,none⟩=some (.pointer (some ⟨a,0,none⟩))∧w1.cell? ⟨pb,1,none⟩=some (.pointer (some ⟨mb,0,none⟩))∧w1.cell? ⟨w.heap.size,3,none⟩=some (.int .i64 t) ∧
  Calls prog 97 #[.pointer (some ⟨mb,0,none⟩),.int .i64 t] w1.drew fun e w'=>e=.returned (.int .i64 c)∧Yce w w' a mb k F q∧w'.cell? ⟨pb,1,none⟩=some (.pointer (some ⟨mb,0,none⟩))∧w'.cell? ⟨w.heap.size,3,none⟩=some (.int .i64 t)):=by
  refine (Y35 hR0.drew hpw hp.out hBB hF hq t hot).mono ?_
  rintro e w1 ⟨c,h1,h2,M⟩
  have hk:w1.heap[w.heap.size]? = _:=(M.kept w.heap.size hIn).trans hg0
  refine ⟨c,h1,by simpa using h2,Yaa (j:=0) M.cell rfl,Yaa (j:=1) M.cell rfl,Yaa (j:=3) hk rfl,(M.next w1.drew (Below.refl _ _).drew).mono ?_⟩
  rintro e' w' ⟨h3,h4,h5,h6⟩
  have hk':w'.heap[w.heap.size]? = _:=(h6 w.heap.size (.inl hIn)).trans hk
  exact ⟨h3,h4,Yaa (j:=1) h5 rfl,Yaa (j:=3) hk' rfl⟩
 generalize Yce w=AX at KB ⊢
 clear hR0 h hp hBB hIn hg0 hF hz0
 go_enter func65,ntmps65
 go_upto_region 1 with fail
 rw [←hW0]
 clear hW0
 go_upto_region 27 with fail
 go_region_held3 (fun w'=>w'.cell? ⟨pb,0,none⟩=some (.pointer (some ⟨a,0,none⟩))∧w'.cell? ⟨w.heap.size,3,none⟩=some (.int .i64 t))
  (go_keep)
  (first
   | (go_at_call 25;go_must (
    refine KB.out.mono ?_;rintro e w1 ⟨c,rfl,heq,d0,d1,d3,hm⟩;have KM:=Yh hm;clear hm)))
 all_goals
  go_upto_region 30 with fail
  go_region_held3 (fun w'=>w'.cell? ⟨pb,1,none⟩=some (.pointer (some ⟨mb,0,none⟩))∧w'.cell? ⟨w.heap.size,3,none⟩=some (.int .i64 t))
   (go_keep)
   (first
    | (go_at_call 97;go_must (
     refine KM.out.mono ?_;rintro e w2 ⟨rfl,hx,s1,s2⟩;have HX:=Yh hx;clear hx)))
  all_goals
   go_wp2;go_ret;exact ⟨rfl,HX.out⟩
theorem Y39 (h:Ydr w a mb k P F q q) (hp:Yee w pb a mb F) (_hq:q≤1999999999998) (o:OpV) (ho:o.kind=8) (hot:Yax o.t) (hok:o.key.size≤140737488355328) (hov:o.val.size≤140737488355328):
 Calls prog 65 #[.pointer (some ⟨pb,0,none⟩),.agg o.cells.toArray] w fun e w'=>e=.returned (.bool true)∧Yce w w' a mb k F q:=by
 obtain ⟨kind,on,om,t,key,val,keep,tear,fuse⟩:=o
 simp only at ho hot hok hov
 subst ho
 simp only [OpV.cells]
 have hpw:pb<w.heap.size:=Yaz hp.cell
 have hF:∀ x,F x→x<w.heap.size:=fun x hx=>h.lt x hx
 obtain ⟨W0,hW0⟩:∃ W0,W0=w.alloc (.cells #[.int .i64 8,.int .i64 on,.int .i64 om,.int .i64 t,.string key,.string val,.int .u64 keep,.int .i64 tear,.int .i64 fuse] 80):=⟨_,rfl⟩
 have hR0:Ybd w W0 pb a mb k P P F q q (fun x=>False∨(w.heap.size≤x∧x<W0.heap.size)):=(Ybd.start h hp).new (by rw [hW0];exact (Below.refl _ _).alloc (Nat.le_refl _) _)
 have hz0:W0.heap.size=w.heap.size+1:=by rw [hW0];simp
 have hg0:W0.heap[w.heap.size]? = some (.cells #[.int .i64 8,.int .i64 on,.int .i64 om,.int .i64 t,.string key,.string val,.int .u64 keep,.int .i64 tear,.int .i64 fuse] 80 (0,0)):=by rw [hW0];exact heap_alloc_new w _
 have hBB:∀ x,(False∨(w.heap.size≤x∧x<W0.heap.size))→x<W0.heap.size:=fun x hx=>hx.elim False.elim (fun h9=>h9.2)
 have hIn:False∨(w.heap.size≤w.heap.size∧w.heap.size<W0.heap.size):=.inr ⟨Nat.le_refl _,by omega⟩
 have c0:W0.cell? ⟨w.heap.size,0,none⟩=some (.int .i64 8):=Yaa hg0 rfl
 have c3:W0.cell? ⟨w.heap.size,3,none⟩=some (.int .i64 t):=Yaa hg0 rfl
 have c4:W0.cell? ⟨w.heap.size,4,none⟩=some (.string key):=Yaa hg0 rfl
 have c5:W0.cell? ⟨w.heap.size,5,none⟩=some (.string val):=Yaa hg0 rfl
 have p0:W0.cell? ⟨pb,0,none⟩=some (.pointer (some ⟨a,0,none⟩)):=Yaa (j:=0) hR0.cell rfl
 have KB:Hid (Calls prog 32 #[.pointer (some ⟨a,0,none⟩)] W0 fun e w1=>∃ c:Int,e=.returned (.int .i64 c)∧(c == 4)=false∧w1.cell? ⟨pb,1,none⟩=some (.pointer (some ⟨mb,0,none⟩)) ∧
  Calls prog 98 #[.pointer (some ⟨mb,0,none⟩)] w1 fun e w'=>e=.returned (.int .i64 c)∧Yce w w' a mb k F q):=by
  refine (Y36 hR0 hpw hp.out hBB hF).mono ?_
  rintro e w1 ⟨c,h1,h2,M⟩
  refine ⟨c,h1,by simpa using h2,Yaa (j:=1) M.cell rfl,(M.next w1 (Below.refl _ _)).mono ?_⟩
  rintro e' w' ⟨h3,h4,_⟩
  exact ⟨h3,h4⟩
 generalize Yce w=AX at KB ⊢
 clear hR0 h hp hBB hIn hg0 hF hz0 _hq hot hok hov
 go_enter func65,ntmps65
 go_upto_region 1 with fail
 rw [←hW0]
 clear hW0
 go_wp2_with (first
  | (go_at_call 32;go_must (
   refine KB.out.mono ?_;rintro e w1 ⟨c,rfl,heq,d1,hm⟩;have KM:=Yh hm;clear hm))
  | (go_at_call 98;go_must (
   refine KM.out.mono ?_;rintro e w2 ⟨rfl,hx⟩;have HX:=Yh hx;clear hx)))
 go_ret
 exact ⟨rfl,HX.out⟩
theorem Y4a (h:Ydr w a mb k P F q q) (hp:Yee w pb a mb F) (hq:q≤1999999999998) (o:OpV) (ho:o.kind=4) (hot:Yax o.t) (hok:o.key.size≤140737488355328) (hov:o.val.size≤140737488355328):
 Calls prog 65 #[.pointer (some ⟨pb,0,none⟩),.agg o.cells.toArray] w fun e w'=>e=.returned (.bool true)∧Yce w w' a mb k F q:=by
 obtain ⟨kind,on,om,t,key,val,keep,tear,fuse⟩:=o
 simp only at ho hot hok hov
 subst ho
 simp only [OpV.cells]
 have hpw:pb<w.heap.size:=Yaz hp.cell
 have hF:∀ x,F x→x<w.heap.size:=fun x hx=>h.lt x hx
 obtain ⟨W0,hW0⟩:∃ W0,W0=w.alloc (.cells #[.int .i64 4,.int .i64 on,.int .i64 om,.int .i64 t,.string key,.string val,.int .u64 keep,.int .i64 tear,.int .i64 fuse] 80):=⟨_,rfl⟩
 have hR0:Ybd w W0 pb a mb k P P F q q (fun x=>False∨(w.heap.size≤x∧x<W0.heap.size)):=(Ybd.start h hp).new (by rw [hW0];exact (Below.refl _ _).alloc (Nat.le_refl _) _)
 have hz0:W0.heap.size=w.heap.size+1:=by rw [hW0];simp
 have hg0:W0.heap[w.heap.size]? = some (.cells #[.int .i64 4,.int .i64 on,.int .i64 om,.int .i64 t,.string key,.string val,.int .u64 keep,.int .i64 tear,.int .i64 fuse] 80 (0,0)):=by rw [hW0];exact heap_alloc_new w _
 have hBB:∀ x,(False∨(w.heap.size≤x∧x<W0.heap.size))→x<W0.heap.size:=fun x hx=>hx.elim False.elim (fun h9=>h9.2)
 have hIn:False∨(w.heap.size≤w.heap.size∧w.heap.size<W0.heap.size):=.inr ⟨Nat.le_refl _,by omega⟩
 have c0:W0.cell? ⟨w.heap.size,0,none⟩=some (.int .i64 4):=Yaa hg0 rfl
 have c3:W0.cell? ⟨w.heap.size,3,none⟩=some (.int .i64 t):=Yaa hg0 rfl
 have c4:W0.cell? ⟨w.heap.size,4,none⟩=some (.string key):=Yaa hg0 rfl
 have c5:W0.cell? ⟨w.heap.size,5,none⟩=some (.string val):=Yaa hg0 rfl
 have p0:W0.cell? ⟨pb,0,none⟩=some (.pointer (some ⟨a,0,none⟩)):=Yaa (j:=0) hR0.cell rfl
 have KB:Hid (Calls prog 20 #[.pointer (some ⟨a,0,none⟩),.int .i64 t,.string key,.string val] W0.drew fun e w1=>∃ c:Int,e=.returned (.int .i64 c)∧w1.cell? ⟨pb,0,none⟩=some (.pointer (some ⟨a,0,none⟩))∧w1.heap[w.heap.size]? = some (.cells #[.int .i64 4,.int .i64 on,.int .i64 om,.int .i64 t,.string key,.string val,.int .u64 keep,.int .i64 tear,.int .i64 fuse] 80 (0,0)) ∧
  ∀ W,Below w1.heap.size w1 W→Calls prog 95 #[.pointer (some ⟨pb,0,none⟩),.int .i64 c,.agg #[.int .i64 4,.int .i64 on,.int .i64 om,.int .i64 t,.string key,.string val,.int .u64 keep,.int .i64 tear,.int .i64 fuse],.agg #[.bool true,.string val]] W fun e w'=>e=.returned (.bool true)∧Yce w w' a mb k F q):=by
  refine (Yz2 a t key val W0.drew (fun c w1=>w1.cell? ⟨pb,0,none⟩=some (.pointer (some ⟨a,0,none⟩))∧w1.heap[w.heap.size]? = some (.cells #[.int .i64 4,.int .i64 on,.int .i64 om,.int .i64 t,.string key,.string val,.int .u64 keep,.int .i64 tear,.int .i64 fuse] 80 (0,0)) ∧
   ∀ W,Below w1.heap.size w1 W→Calls prog 95 #[.pointer (some ⟨pb,0,none⟩),.int .i64 c,.agg #[.int .i64 4,.int .i64 on,.int .i64 om,.int .i64 t,.string key,.string val,.int .u64 keep,.int .i64 tear,.int .i64 fuse],.agg #[.bool true,.string val]] W fun e w'=>e=.returned (.bool true)∧Yce w w' a mb k F q) ((Yud hR0.drew hpw hp.out hBB hF hq t hot key hok (true,val) rfl hov).mono ?_))
  rintro e w1 ⟨c,h1,h2,M⟩
  have hk:w1.heap[w.heap.size]? = _:=(M.kept w.heap.size hIn).trans hg0
  exact ⟨c,h1,Yaa (j:=0) M.cell rfl,hk,fun W hW=>Yue c h2 4 on om t key val keep tear fuse _ _ M W hW⟩
 generalize Yce w=AX at KB ⊢
 clear hR0 h hp hBB hIn hg0 hF hz0
 go_enter func65,ntmps65
 go_upto_region 1 with fail
 rw [←hW0]
 clear hW0
 go_upto_region 15 with fail
 go_region_held3 (fun w'=>w'.cell? ⟨pb,0,none⟩=some (.pointer (some ⟨a,0,none⟩))∧w'.cell? ⟨w.heap.size,3,none⟩=some (.int .i64 t)∧w'.cell? ⟨w.heap.size,4,none⟩=some (.string key)∧w'.cell? ⟨w.heap.size,5,none⟩=some (.string val))
  (go_keep)
  (first
   | (go_at_call 20;go_must (
    refine KB.out.mono ?_;rintro e w1 ⟨c,rfl,d0,hk,hm⟩;have KM:=Yh hm;have e0:w1.cell? ⟨w.heap.size,0,none⟩=some (.int .i64 4):=Yaa (j:=0) hk rfl;have e1:w1.cell? ⟨w.heap.size,1,none⟩=some (.int .i64 on):=Yaa (j:=1) hk rfl;have e2:w1.cell? ⟨w.heap.size,2,none⟩=some (.int .i64 om):=Yaa (j:=2) hk rfl;have e3:w1.cell? ⟨w.heap.size,3,none⟩=some (.int .i64 t):=Yaa (j:=3) hk rfl;have e4:w1.cell? ⟨w.heap.size,4,none⟩=some (.string key):=Yaa (j:=4) hk rfl;have e5:w1.cell? ⟨w.heap.size,5,none⟩=some (.string val):=Yaa (j:=5) hk rfl;have e6:w1.cell? ⟨w.heap.size,6,none⟩=some (.int .u64 keep):=Yaa (j:=6) hk rfl;have e7:w1.cell? ⟨w.heap.size,7,none⟩=some (.int .i64 tear):=Yaa (j:=7) hk rfl;have e8:w1.cell? ⟨w.heap.size,8,none⟩=some (.int .i64 fuse):=Yaa (j:=8) hk rfl;clear hm hk)))
 all_goals
  go_wp2_with (first
   | (go_at_call 95;go_must (
    refine (KM.out _ (by first | exact Below.refl _ _ | exact (Below.refl _ _).drew)).mono ?_;rintro e w2 ⟨rfl,hx⟩;have HX:=Yh hx;clear hx)))
  go_ret;exact ⟨rfl,HX.out⟩
theorem Y4b (h:Ydr w a mb k P F q q) (hp:Yee w pb a mb F) (hq:q≤1999999999998) (o:OpV) (ho:o.kind=5) (hot:Yax o.t) (hok:o.key.size≤140737488355328) (hov:o.val.size≤140737488355328):
 Calls prog 65 #[.pointer (some ⟨pb,0,none⟩),.agg o.cells.toArray] w fun e w'=>e=.returned (.bool true)∧Yce w w' a mb k F q:=by
 obtain ⟨kind,on,om,t,key,val,keep,tear,fuse⟩:=o
 simp only at ho hot hok hov
 subst ho
 simp only [OpV.cells]
 have hpw:pb<w.heap.size:=Yaz hp.cell
 have hF:∀ x,F x→x<w.heap.size:=fun x hx=>h.lt x hx
 obtain ⟨W0,hW0⟩:∃ W0,W0=w.alloc (.cells #[.int .i64 5,.int .i64 on,.int .i64 om,.int .i64 t,.string key,.string val,.int .u64 keep,.int .i64 tear,.int .i64 fuse] 80):=⟨_,rfl⟩
 have hR0:Ybd w W0 pb a mb k P P F q q (fun x=>False∨(w.heap.size≤x∧x<W0.heap.size)):=(Ybd.start h hp).new (by rw [hW0];exact (Below.refl _ _).alloc (Nat.le_refl _) _)
 have hz0:W0.heap.size=w.heap.size+1:=by rw [hW0];simp
 have hg0:W0.heap[w.heap.size]? = some (.cells #[.int .i64 5,.int .i64 on,.int .i64 om,.int .i64 t,.string key,.string val,.int .u64 keep,.int .i64 tear,.int .i64 fuse] 80 (0,0)):=by rw [hW0];exact heap_alloc_new w _
 have hBB:∀ x,(False∨(w.heap.size≤x∧x<W0.heap.size))→x<W0.heap.size:=fun x hx=>hx.elim False.elim (fun h9=>h9.2)
 have hIn:False∨(w.heap.size≤w.heap.size∧w.heap.size<W0.heap.size):=.inr ⟨Nat.le_refl _,by omega⟩
 have c0:W0.cell? ⟨w.heap.size,0,none⟩=some (.int .i64 5):=Yaa hg0 rfl
 have c3:W0.cell? ⟨w.heap.size,3,none⟩=some (.int .i64 t):=Yaa hg0 rfl
 have c4:W0.cell? ⟨w.heap.size,4,none⟩=some (.string key):=Yaa hg0 rfl
 have c5:W0.cell? ⟨w.heap.size,5,none⟩=some (.string val):=Yaa hg0 rfl
 have p0:W0.cell? ⟨pb,0,none⟩=some (.pointer (some ⟨a,0,none⟩)):=Yaa (j:=0) hR0.cell rfl
 have KB:Hid (Calls prog 24 #[.pointer (some ⟨a,0,none⟩),.int .i64 t,.string key] W0.drew fun e w1=>∃ c:Int,e=.returned (.int .i64 c)∧w1.cell? ⟨pb,0,none⟩=some (.pointer (some ⟨a,0,none⟩))∧w1.heap[w.heap.size]? = some (.cells #[.int .i64 5,.int .i64 on,.int .i64 om,.int .i64 t,.string key,.string val,.int .u64 keep,.int .i64 tear,.int .i64 fuse] 80 (0,0)) ∧
  ∀ W,Below w1.heap.size w1 W→Calls prog 95 #[.pointer (some ⟨pb,0,none⟩),.int .i64 c,.agg #[.int .i64 5,.int .i64 on,.int .i64 om,.int .i64 t,.string key,.string val,.int .u64 keep,.int .i64 tear,.int .i64 fuse],.agg #[.bool false,.string ByteArray.empty]] W fun e w'=>e=.returned (.bool true)∧Yce w w' a mb k F q):=by
  refine (Yz3 a t key W0.drew (fun c w1=>w1.cell? ⟨pb,0,none⟩=some (.pointer (some ⟨a,0,none⟩))∧w1.heap[w.heap.size]? = some (.cells #[.int .i64 5,.int .i64 on,.int .i64 om,.int .i64 t,.string key,.string val,.int .u64 keep,.int .i64 tear,.int .i64 fuse] 80 (0,0)) ∧
   ∀ W,Below w1.heap.size w1 W→Calls prog 95 #[.pointer (some ⟨pb,0,none⟩),.int .i64 c,.agg #[.int .i64 5,.int .i64 on,.int .i64 om,.int .i64 t,.string key,.string val,.int .u64 keep,.int .i64 tear,.int .i64 fuse],.agg #[.bool false,.string ByteArray.empty]] W fun e w'=>e=.returned (.bool true)∧Yce w w' a mb k F q) ((Yud hR0.drew hpw hp.out hBB hF hq t hot key hok (false,ByteArray.empty) rfl (by simp)).mono ?_))
  rintro e w1 ⟨c,h1,h2,M⟩
  have hk:w1.heap[w.heap.size]? = _:=(M.kept w.heap.size hIn).trans hg0
  exact ⟨c,h1,Yaa (j:=0) M.cell rfl,hk,fun W hW=>Yue c h2 5 on om t key val keep tear fuse _ _ M W hW⟩
 generalize Yce w=AX at KB ⊢
 clear hR0 h hp hBB hIn hg0 hF hz0
 go_enter func65,ntmps65
 go_upto_region 1 with fail
 rw [←hW0]
 clear hW0
 go_upto_region 18 with fail
 go_region_held3 (fun w'=>w'.cell? ⟨pb,0,none⟩=some (.pointer (some ⟨a,0,none⟩))∧w'.cell? ⟨w.heap.size,3,none⟩=some (.int .i64 t)∧w'.cell? ⟨w.heap.size,4,none⟩=some (.string key)∧w'.cell? ⟨w.heap.size,5,none⟩=some (.string val))
  (go_keep)
  (first
   | (go_at_call 24;go_must (
    refine KB.out.mono ?_;rintro e w1 ⟨c,rfl,d0,hk,hm⟩;have KM:=Yh hm;have e0:w1.cell? ⟨w.heap.size,0,none⟩=some (.int .i64 5):=Yaa (j:=0) hk rfl;have e1:w1.cell? ⟨w.heap.size,1,none⟩=some (.int .i64 on):=Yaa (j:=1) hk rfl;have e2:w1.cell? ⟨w.heap.size,2,none⟩=some (.int .i64 om):=Yaa (j:=2) hk rfl;have e3:w1.cell? ⟨w.heap.size,3,none⟩=some (.int .i64 t):=Yaa (j:=3) hk rfl;have e4:w1.cell? ⟨w.heap.size,4,none⟩=some (.string key):=Yaa (j:=4) hk rfl;have e5:w1.cell? ⟨w.heap.size,5,none⟩=some (.string val):=Yaa (j:=5) hk rfl;have e6:w1.cell? ⟨w.heap.size,6,none⟩=some (.int .u64 keep):=Yaa (j:=6) hk rfl;have e7:w1.cell? ⟨w.heap.size,7,none⟩=some (.int .i64 tear):=Yaa (j:=7) hk rfl;have e8:w1.cell? ⟨w.heap.size,8,none⟩=some (.int .i64 fuse):=Yaa (j:=8) hk rfl;clear hm hk)))
 all_goals
  go_wp2_with (first
   | (go_at_call 95;go_must (
    refine (KM.out _ (by first | exact Below.refl _ _ | exact (Below.refl _ _).drew)).mono ?_;rintro e w2 ⟨rfl,hx⟩;have HX:=Yh hx;clear hx)))
  go_ret;exact ⟨rfl,HX.out⟩
end Go.Proofs.YtihbngfbcnojcaaGreat
