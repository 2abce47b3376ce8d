import Derived.Test.YtihbngfbcnojcaaGreatActC03
set_option maxRecDepth 100000
set_option maxHeartbeats 8000000
namespace Go.Proofs.YtihbngfbcnojcaaGreat
open Go.RowKit Tryz
variable {bs:List Int} {gb off:Nat} {w:World}
def Ydg (ws:Ycl):Yaf:=ws.foldl (fun q p=>Yaw q p.1 true ByteArray.empty) []
theorem Yp4:∀ (ws:Ycl) (ps:Yaf),(ws.foldl (fun q p=>Yaw q p.1 true ByteArray.empty) ps).length≤ps.length+ws.length
 | [],ps=>by simp
 | p :: r,ps=>by
  have h1:=Yp4 r (Yaw ps p.1 true ByteArray.empty);have h2:=Ymn ps p.1 ByteArray.empty true;simp only [List.foldl_cons,List.length_cons];omega
def Yba (t:TxV) (len k:Nat):Int:=if k=0 then t.last else (len:Int)+k
def Yin (t:TxV) (pairs:Yaf) (len k:Nat) (key:ByteArray):Yac:=⟨1,t.id,Yba t len k,0,key,(Yag pairs key).1,(Yag pairs key).2,((Yb3 t.writes key).getD (false,ByteArray.empty)).1,((Yb3 t.writes key).getD (false,ByteArray.empty)).2⟩
def Ycg (t:TxV) (pairs:Yaf) (len:Nat) (ks:Yaf):List Yac:=ks.mapIdx fun j q=>Yin t pairs len j q.1
theorem Yvy (t:TxV) (pairs:Yaf) (len:Nat) (ks:Yaf) (k:Nat) (h:k<ks.length):Ycg t pairs len (ks.take (k+1))=Ycg t pairs len (ks.take k) ++ [Yin t pairs len k ks[k].1]:=by
 rw [Ycg,Ycg,List.take_succ_eq_append_getElem h,List.mapIdx_concat,List.length_take,Nat.min_eq_left (by omega)]
theorem Yjx (t:TxV) (pairs:Yaf) (len:Nat) (ks:Yaf):(Ycg t pairs len ks).length=ks.length:=by simp [Ycg]
theorem Yvz (mb:Nat) (n:Yaz) (s:Ya4) (l:List (TxV×TxS)) (pairs other:Yaf) (log:List Yac) (t:Int) (i:Nat) (p:TxV×TxS) (w:World) (h:Yaq w mb n s l pairs other log) (hs:Yhc l pairs log) (hm:n.mode=1) (hd:n.dead=false) (hf:Ya5 l t=some i) (hi:l[i]? = some p) (hw:p.1.writes≠[]) (hlg:log.length≤5000):
 Calls prog 96 #[.pointer (some ⟨mb,0,none⟩),.int .i64 t] w fun e w'=>e=.returned (.int .i64 0) ∧
  ∃ vp' vt' vl',Yaq w' mb n { s with vp:=vp',vt:=vt',vl:=vl' } (l.eraseIdx i) (Ybu pairs p.1.writes) other (log ++ Ycg p.1 pairs log.length (Ydg p.1.writes) ++ [⟨3,p.1.id,Yba p.1 log.length (Ydg p.1.writes).length,0,ByteArray.empty,false,ByteArray.empty,false,ByteArray.empty⟩])∧Ya9 w w' mb s { s with vp:=vp',vt:=vt',vl:=vl' } l (l.eraseIdx i):=by
 have hil:i<l.length:=(List.getElem?_eq_some_iff.1 hi).1
 have hil':(i:Int)<(l.length:Int):=by omega
 have HH:=Yh h
 have HS:=Yh hs
 have HF:Hid (Ye5 (Ya5 l t)=(i:Int)):=by show _=_;rw [hf];rfl
 obtain ⟨g,cap,cur,hvt,hcur,hcell,hog,hgm⟩:=h.openBlock (by omega)
 have c0:w.cell? ⟨mb,0,none⟩=some (.int .i64 1):=Yaa h.cell (by rw [←hm];rfl)
 have c1:w.cell? ⟨mb,1,none⟩=some (.bool false):=Yaa h.cell (by rw [←hd];rfl)
 have c5:w.cell? ⟨mb,5,none⟩=some (.slice (some ⟨g,0,none⟩) l.length cap):=by rw [←hvt];exact Yaa h.cell rfl
 have tw:=h.txs p (List.mem_of_getElem? hi)
 obtain ⟨aw,cw,hvw,_⟩:=Ya6 tw.2.1
 have c3:w.cell? ⟨g,i*5+3,none⟩=some (.slice aw p.1.writes.length cw):=by
  have:=Yaa hcur (hcell _ _ (Yb4 l i p hi 3 _ rfl));rw [this,hvw]
 have hwl:0<p.1.writes.length:=by
  cases hq:p.1.writes with
  | nil=>exact absurd hq hw
  | cons=>simp
 have hwl':(0:Int)<(p.1.writes.length:Int):=by omega
 have HG:Hid (w.heap[g]? = some (.cells cur 200 (0,0))∧s.vt=.slice (some ⟨g,0,none⟩) l.length cap∧(∀ (j:Nat) u,(Ya1 l)[j]? = some u→cur[j]? = some u)∧Yai mb s l .opn=some g∧g≠mb):=⟨hcur,hvt,hcell,hog,hgm⟩
 have HVW:=Yh hvw
 have hmw:mb<w.heap.size:=h.lt .mod mb rfl
 have hgw:g<w.heap.size:=h.lt .opn g hog
 clear h hs hvt hcur hcell hog tw hvw hf hw hd hm hgm
 go_enter func96,ntmps96
 go_wp2_with (first
  | (go_at_call 133;go_must (
   refine (Yer mb n s l t w HH.out.cell HH.out.opn (by have:=HS.out.opn;omega)).mono ?_;rw [HF.out];rintro e w' ⟨rfl,rfl⟩)))
 go_loopw [7,8] (fun u j wr=>∃ k:Nat,k≤p.1.writes.length∧j=.int .i64 k∧wr.ownsRow w.heap.size 43 2 u (Ydg (p.1.writes.take k)).length (Yad (Ydg (p.1.writes.take k)))∧Below w.heap.size w wr) (fun _ j _=>p.1.writes.length - (intOf j).toNat)
 case atStart=>exact ⟨0,by omega,rfl,World.ownsRow_nil _ _ _ _,Below.refl _ _⟩
 case round=>
  obtain ⟨k,hk,rfl,hrow,hbr⟩:=hrel;have HB:=Yh hbr;have HR:=Yh hrow;have d3:wr.cell? ⟨g,i*5+3,none⟩=some (.slice aw p.1.writes.length cw):=(hbr.cell hgw).trans c3;have hl:(Ydg (p.1.writes.take k)).length≤_:=Yp4 (p.1.writes.take k) [];have hl2:(p.1.writes.take k).length≤p.1.writes.length:=by rw [List.length_take];omega
  have hl3:=(HS.out.wrs p (List.mem_of_getElem? hi)).1;have hwz:=hbr.size;by_cases hlt:k<p.1.writes.length
  ·have hlt':(k:Int)<(p.1.writes.length:Int):=by omega
   have hpr:wr.ownsRow 0 206 3 (.slice aw p.1.writes.length cw) p.1.writes.length (Yco p.1.writes):=by
    have:=(HH.out.txs p (List.mem_of_getElem? hi)).2.1;rw [HVW.out] at this;exact Ybe this hbr (fun g hg=>(this.lt g hg).2)
   obtain ⟨gq,cap',he⟩:=Ybn hpr (by omega);simp only [Value.slice.injEq] at he;obtain ⟨rfl,-,rfl⟩:=he;obtain ⟨d0,_,_⟩:=Yik p.1.writes k p.1.writes[k] (List.getElem?_eq_getElem hlt);have e0:=Yal hpr d0;have HSt:Hid (Ydg (p.1.writes.take (k+1))=Yaw (Ydg (p.1.writes.take k)) p.1.writes[k].1 true ByteArray.empty):=by
    show _=_;rw [List.take_succ_eq_append_getElem hlt,Ydg,List.foldl_append];rfl
   have HL:Hid ((Ydg (p.1.writes.take k)).length≤50000):=by show _≤_;simp only [List.length_nil] at hl;omega
   clear d0 hpr hrow hbr hl hl2;generalize Ydg (p.1.writes.take k)=M at HR HSt HL;generalize p.1.writes[k].1=k0 at e0 HSt;go_wp2_with (first
    | (go_at_call 134;go_must (
     refine (Yky w.heap.size _ M k0 true ByteArray.empty wr HR.out (by have:=HL.out;omega)).mono ?_;rintro e w2 ⟨v2,rfl,ho2,hb2⟩;have HR2:Hid (w2.ownsRow w.heap.size 43 2 v2 (Yaw M k0 true ByteArray.empty).length (Yad (Yaw M k0 true ByteArray.empty))):=Yfg ho2 (by omega);have HB2:Hid (Below w.heap.size w w2):=HB.out.trans (hb2.mono (by omega));clear ho2 hb2)))
   exact ⟨⟨k+1,by omega,by simp,by rw [HSt.out];exact HR2.out,HB2.out⟩,by simp [intOf];omega⟩
  ·have hlt':¬(k:Int)<(p.1.writes.length:Int):=by omega
   have hkk:p.1.writes.take k=p.1.writes:=List.take_of_length_le (by omega);rw [hkk] at HR hl;clear hrow hbr;obtain ⟨K,hK⟩:∃ K,K=Ydg p.1.writes:=⟨_,rfl⟩;rw [←hK] at HR hl;have hKl:K.length≤1000:=by simp only [List.length_nil] at hl;omega
   obtain ⟨uk,ck,rfl,_⟩:=Ya6 HR.out;have HK:=Yh hK;clear hK hl hl2 hl3 hkk;have H1:Hid (Yaq wr mb n s l pairs other log):=HH.out.below HB.out;obtain ⟨w1,hw1⟩:∃ w1,w1=wr:=⟨_,rfl⟩;subst hw1;have hself:l.set i p=l:=by
    obtain ⟨h1,h2⟩:=List.getElem?_eq_some_iff.1 hi;rw [←h2];exact List.set_getElem_self h1
   have HSELF:Hid (l.set i ({ p.1 with last:=Yba p.1 log.length 0 },p.2)=l):=hself;have hl3:=(HS.out.wrs p (List.mem_of_getElem? hi)).1;have hll3:=HS.out.log;clear hself;go_wp2;clear d3 c0 c1 c5 c3;go_loopw [9] (fun j wr=>∃ k:Nat,k≤K.length∧j=.int .i64 k∧∃ vl',Yaq wr mb n { s with vl:=vl' } (l.set i ({ p.1 with last:=Yba p.1 log.length k },p.2)) pairs other (log ++ Ycg p.1 pairs log.length (K.take k))∧Ya9 w1 wr mb s { s with vl:=vl' } l (l.set i ({ p.1 with last:=Yba p.1 log.length k },p.2))) (fun j _=>K.length - (intOf j).toNat)
   case atStart=>
    refine ⟨0,by omega,rfl,s.vl,?_,?_⟩
    ·rw [HSELF.out];simpa [Ycg] using H1.out
    ·rw [HSELF.out];exact Ya9.of_below H1.out (Below.refl _ _)
   case round=>
    obtain ⟨k,hk,rfl,vl',M0,S0⟩:=hrel;have HM0:=Yh M0;have HS0:=Yh S0;have hi0:(l.set i (({ p.1 with last:=Yba p.1 log.length k },p.2):TxV×TxS))[i]? = some ({ p.1 with last:=Yba p.1 log.length k },p.2):=by rw [List.getElem?_set_self hil]
    obtain ⟨g',cap',cur',hvt',hcur',hcell',hog',hgm'⟩:=M0.openBlock (by rw [List.length_set];omega);obtain rfl:g=g':=by
     have h1:=HG.out.2.1;simp only at hvt';rw [hvt'] at h1;simp at h1;exact h1.1.symm
    have HG0:Hid (wr.heap[g]? = some (.cells cur' 200 (0,0))∧s.vt=.slice (some ⟨g,0,none⟩) (l.set i (({ p.1 with last:=Yba p.1 log.length k },p.2):TxV×TxS)).length cap'∧(∀ (j:Nat) u,(Ya1 (l.set i (({ p.1 with last:=Yba p.1 log.length k },p.2):TxV×TxS)))[j]? = some u→cur'[j]? = some u)∧Yai mb { s with vl:=vl' } (l.set i (({ p.1 with last:=Yba p.1 log.length k },p.2):TxV×TxS)) .opn=some g∧g≠mb):=⟨hcur',hvt',hcell',hog',hgm'⟩;have HI0:=Yh hi0;have HC0:Hid (wr.cell? ⟨g,i*5+3,none⟩=some p.2.vw):=Yaa hcur' (hcell' _ _ (Yb4 _ i _ hi0 3 _ rfl));have hmw0:mb<wr.heap.size:=M0.lt .mod mb rfl;have hgw0:g<wr.heap.size:=M0.lt .opn g hog';have HRK:Hid (wr.ownsRow w.heap.size 43 2 (.slice uk K.length ck) K.length (Yad K)):=Yas HR.out (fun q hq=>S0.kept q (HR.out.lt q hq).2 (fun a e=>by
     have h1:=(HR.out.lt q hq).1;have h2:=HH.out.lt a q e;omega))
    by_cases hlt:k<K.length
    ·have hlt':(k:Int)<(K.length:Int):=by omega
     obtain ⟨gk,ck',he⟩:=Ybn HRK.out (by omega);simp only [Value.slice.injEq] at he;obtain ⟨rfl,-,rfl⟩:=he;have e0:=Yal HRK.out (Ye2 K k K[k] (List.getElem?_eq_getElem hlt)).1;have hgk:gk<wr.heap.size:=(HRK.out.lt gk rfl).2;have HSn:=Yh (Yvy p.1 pairs log.length K k hlt);have HNO1:Hid (∀ a,Yai mb { s with vl:=vl' } (l.set i (({ p.1 with last:=Yba p.1 log.length k },p.2):TxV×TxS)) a≠some gk):=fun a e=>by
      rcases S0.blks a gk e with ⟨b',hb'⟩ | h1
      ·have h2:=HH.out.lt b' gk hb'
       have h3:=(HR.out.lt gk rfl).1;omega
      ·have h3:=(HR.out.lt gk rfl).2
       omega
     have HNO2:Hid (∀ q,wr.heap.size≤q→∀ a,Yai mb { s with vl:=vl' } (l.set i (({ p.1 with last:=Yba p.1 log.length k },p.2):TxV×TxS)) a≠some q):=fun q hq a e=>by
      have:=M0.lt a q e;omega
     clear M0 S0 hi0 hvt' hcur' hcell' hog' hgm';generalize K[k].1=kk at e0 HSn;go_wp2_with (first
      | (go_at_call 135;go_must (
       refine (Ykz g (i*5) p.2.vw p.1.writes kk wr HC0.out (HM0.out.txs _ (List.mem_of_getElem? HI0.out)).2.1 (by omega)).mono ?_;generalize hcc:(Yb3 p.1.writes kk).getD (false,ByteArray.empty)=cc;obtain ⟨cb,cv⟩:=cc;have HCC:=Yh hcc;rintro e w2 ⟨rfl,hb2⟩;have HB2:=Yh hb2;have hz2:=hb2.size;have e2:w2.cell? ⟨gk,k*2,none⟩=some (.string kk):=(hb2.cell hgk).trans e0;have e3:w2.cell? ⟨mb,3,none⟩=some s.vp:=(hb2.cell hmw0).trans (Yaa HM0.out.cell rfl);clear hcc hb2)))
     have hB2:Below wr.heap.size wr (w2.alloc (.cells #[.bool cb,.string cv] 38)):=HB2.out.alloc hz2 _;have hN2:=heap_alloc_new w2 (.cells #[.bool cb,.string cv] 38);have hZ2:(w2.alloc (.cells #[.bool cb,.string cv] 38)).heap.size=w2.heap.size+1:=by simp
     revert hB2 hN2 hZ2;generalize w2.alloc (.cells #[.bool cb,.string cv] 38)=W2;intro hB2 hN2 hZ2;have q2:W2.cell? ⟨gk,k*2,none⟩=some (.string kk):=(hB2.cell hgk).trans e0;have q3:W2.cell? ⟨mb,3,none⟩=some s.vp:=(hB2.cell hmw0).trans (Yaa HM0.out.cell rfl);have HBW:=Yh hB2;have HNW:=Yh hN2;have HZW:=Yh hZ2;have HPW:Hid (W2.ownsRow 0 43 2 s.vp pairs.length (Yad pairs)):=(HM0.out.below hB2).prs;clear hB2 hN2 hZ2 e2 e3 e0;have nn1:W2.heap.size≠gk:=World.new_ne W2 _ q2;have nn2:W2.heap.size≠mb:=World.new_ne W2 _ q3;go_region_held3 (fun w'=>w'.cell? ⟨gk,k*2,none⟩=some (.string kk)∧w'.cell? ⟨mb,3,none⟩=some s.vp)
      (go_keep)
      (first
       | (
        go_at_call 136;refine (Ykx 0 s.vp pairs kk (W2.drew.alloc (.cells #[.bool false,.string ByteArray.empty] 38)) (World.ownsRow.alloc (w:=W2.drew) HPW.out _)).mono ?_;rintro e w3 ⟨rfl,hb3⟩;have hx3:w3.heap[W2.heap.size]? = some (.cells #[.bool false,.string ByteArray.empty] 38 (0,0)):=(hb3.block _ (by simp)).trans (heap_alloc_new W2.drew _);have x0:w3.cell? ⟨W2.heap.size,0,none⟩=some (.bool false):=Yaa hx3 rfl;have x1:w3.cell? ⟨W2.heap.size,1,none⟩=some (.string ByteArray.empty):=Yaa hx3 rfl;have y0:=Yah 0 hx3;have y1:=Yah 1 hx3;have HX3:=Yh hx3;have hBX:Below W2.heap.size W2 w3:=((Below.refl _ _).drew.alloc (by simp) _).trans (hb3.mono (by simp));have HBX:=Yh hBX;have n1:gk≠W2.heap.size:=by have:=HBW.out.size;omega
        have n2:mb≠W2.heap.size:=by have:=HBW.out.size;omega
        have q2':w3.cell? ⟨gk,k*2,none⟩=some (.string kk):=(hBX.cell (by have:=HBW.out.size;simp;omega)).trans q2;have q3':w3.cell? ⟨mb,3,none⟩=some s.vp:=(hBX.cell (by have:=HBW.out.size;simp;omega)).trans q3;clear hx3 hBX hb3)
       | (
        go_at_call 136;go_must (
        refine (Ykx 0 s.vp pairs kk W2.drew HPW.out).mono ?_;rintro e w3 ⟨rfl,hb3⟩;have hBX:Below W2.heap.size W2 w3:=(Below.refl _ _).drew.trans hb3;have HBX:=Yh hBX;have n1:gk<w3.heap.size:=by have:=HBW.out.size;have:=hBX.size;omega
        have n2:mb<w3.heap.size:=by have:=HBW.out.size;have:=hBX.size;omega
        have q2':w3.cell? ⟨gk,k*2,none⟩=some (.string kk):=(hBX.cell (by have:=HBW.out.size;simp;omega)).trans q2;have q3':w3.cell? ⟨mb,3,none⟩=some s.vp:=(hBX.cell (by have:=HBW.out.size;simp;omega)).trans q3;clear hBX hb3)))
     all_goals first
     | (
      have hA:=HX3.out;clear hA;have hXb:((w3.setCell ⟨W2.heap.size,0,none⟩ (.bool (Yag pairs kk).1)).setCell ⟨W2.heap.size,1,none⟩ (.string (Yag pairs kk).2)).heap[W2.heap.size]? = some (.cells #[.bool (Yag pairs kk).1,.string (Yag pairs kk).2] 38 (0,0)):=(Yak _ _ 1 _ _ _ (Yak _ _ 0 _ _ _ HX3.out)).trans rfl;have hXB:Below W2.heap.size W2 ((w3.setCell ⟨W2.heap.size,0,none⟩ (.bool (Yag pairs kk).1)).setCell ⟨W2.heap.size,1,none⟩ (.string (Yag pairs kk).2)):=(HBX.out.setCell (p:=⟨W2.heap.size,0,none⟩) (Nat.le_refl _) _).setCell (p:=⟨W2.heap.size,1,none⟩) (Nat.le_refl _) _;revert hXb hXB;generalize ((w3.setCell ⟨W2.heap.size,0,none⟩ (.bool (Yag pairs kk).1)).setCell ⟨W2.heap.size,1,none⟩ (.string (Yag pairs kk).2))=X;intro hXb hXB;have hXW:Below wr.heap.size wr X:=HBW.out.trans (hXB.mono HBW.out.size);have HXW:=Yh hXW;have HMX:Hid (Yaq X mb n { s with vl:=vl' } (l.set i (({ p.1 with last:=Yba p.1 log.length k },p.2):TxV×TxS)) pairs other (log ++ Ycg p.1 pairs log.length (K.take k))):=HM0.out.below hXW;have z0:X.cell? ⟨gk,k*2,none⟩=some (.string kk):=(hXB.cell (by have:=HBW.out.size;simp;omega)).trans q2;have z1:X.cell? ⟨W2.heap.size,0,none⟩=some (.bool (Yag pairs kk).1):=Yaa hXb rfl;have z2:X.cell? ⟨W2.heap.size,1,none⟩=some (.string (Yag pairs kk).2):=Yaa hXb rfl;have hNX:X.heap[w2.heap.size]? = some (.cells #[.bool cb,.string cv] 38 (0,0)):=(hXB.block _ (by have:=HZW.out;omega)).trans HNW.out;have z3:X.cell? ⟨w2.heap.size,0,none⟩=some (.bool cb):=Yaa hNX rfl;have z4:X.cell? ⟨w2.heap.size,1,none⟩=some (.string cv):=Yaa hNX rfl;clear hXb hXB hXW hNX q2 q3 q2' q3';go_wp2_with fail
      go_region_held3 (fun w'=>w'.cell? ⟨gk,k*2,none⟩=some (.string kk)∧w'.cell? ⟨W2.heap.size,0,none⟩=some (.bool (Yag pairs kk).1)∧w'.cell? ⟨W2.heap.size,1,none⟩=some (.string (Yag pairs kk).2)∧w'.cell? ⟨w2.heap.size,0,none⟩=some (.bool cb)∧w'.cell? ⟨w2.heap.size,1,none⟩=some (.string cv))
       (go_keep)
       (first
        | (go_at_call 137;go_must (
         refine (Yha mb g (i*5) n { s with vl:=vl' } cur' (log ++ Ycg p.1 pairs log.length (K.take k)) p.1.id (Yba p.1 log.length k) ⟨1,0,0,0,kk,(Yag pairs kk).1,(Yag pairs kk).2,cb,cv⟩ X.drew HMX.out.cell ((HXW.out.block g hgw0).trans HG0.out.1) (HG0.out.2.2.1 _ _ (Yb4 _ i _ HI0.out 0 _ rfl)) (HG0.out.2.2.1 _ _ (Yb4 _ i _ HI0.out 1 _ rfl)) HMX.out.lg (by rw [List.length_append,Yjx,List.length_take];omega) (Ne.symm HG0.out.2.2.2.2) (fun e=>?hlm) (fun e=>?hlo)).mono ?_
         case hlm=>have:=HMX.out.apart .lg .mod mb e rfl;cases this
         case hlo=>have:=HMX.out.apart .lg .opn g e HG0.out.2.2.2.1;cases this
         rintro e w7 ⟨rfl,hna⟩;obtain ⟨vl2,M7,S7⟩:=Yhb (HMX.out.below (Below.refl _ _).drew) HI0.out HG0.out.2.1 ((HXW.out.block g hgw0).trans HG0.out.1) hna;have hlast:(((log ++ Ycg p.1 pairs log.length (K.take k)).length:Nat):Int)+1=Yba p.1 log.length (k+1):=by
          rw [List.length_append,Yjx,List.length_take,Nat.min_eq_left (by omega)];simp [Yba];omega
         have hent:log ++ Ycg p.1 pairs log.length (K.take (k+1))=log ++ Ycg p.1 pairs log.length (K.take k) ++ [⟨1,p.1.id,Yba p.1 log.length k,0,kk,(Yag pairs kk).1,(Yag pairs kk).2,cb,cv⟩]:=by
          rw [HSn.out,List.append_assoc];simp only [Yin,HCC.out]
         have M7a:=M7;have S7a:=(HS0.out.trans ((Ya9.of_below HM0.out HXW.out).trans (Ya9.of_below HMX.out (Below.refl _ _).drew))).trans S7;rw [List.set_set,hlast,←hent] at M7a;rw [List.set_set,hlast] at S7a;have HM7:=Yh M7a;have HS7:=Yh S7a;have v0:w7.cell? ⟨gk,k*2,none⟩=some (.string kk):=(World.cell?_of_block (a:=⟨gk,k*2,none⟩) (S7.kept _ (World.block_lt_of_cell? X _ z0) HNO1.out)).trans z0;have v1:w7.cell? ⟨W2.heap.size,0,none⟩=some (.bool (Yag pairs kk).1):=(World.cell?_of_block (a:=⟨W2.heap.size,0,none⟩) (S7.kept _ (World.block_lt_of_cell? X _ z1) (HNO2.out (W2.heap.size) (by have:=HBW.out.size;have:=HBX.out.size;omega)))).trans z1;have v2:w7.cell? ⟨W2.heap.size,1,none⟩=some (.string (Yag pairs kk).2):=(World.cell?_of_block (a:=⟨W2.heap.size,1,none⟩) (S7.kept _ (World.block_lt_of_cell? X _ z2) (HNO2.out (W2.heap.size) (by have:=HBW.out.size;have:=HBX.out.size;omega)))).trans z2;have v3:w7.cell? ⟨w2.heap.size,0,none⟩=some (.bool cb):=(World.cell?_of_block (a:=⟨w2.heap.size,0,none⟩) (S7.kept _ (World.block_lt_of_cell? X _ z3) (HNO2.out _ hz2))).trans z3;have v4:w7.cell? ⟨w2.heap.size,1,none⟩=some (.string cv):=(World.cell?_of_block (a:=⟨w2.heap.size,1,none⟩) (S7.kept _ (World.block_lt_of_cell? X _ z4) (HNO2.out _ hz2))).trans z4;clear hna M7 S7 M7a S7a hlast hent)))
      go_wp2;exact ⟨⟨k+1,by omega,by simp,vl2,HM7.out,HS7.out⟩,by simp [intOf];omega⟩)
     | (
      have hA:=HBX.out;clear hA;have hXb:(w3.alloc (.cells #[.bool (Yag pairs kk).1,.string (Yag pairs kk).2] 38)).heap[w3.heap.size]? = some (.cells #[.bool (Yag pairs kk).1,.string (Yag pairs kk).2] 38 (0,0)):=heap_alloc_new w3 _;have hXB:Below W2.heap.size W2 (w3.alloc (.cells #[.bool (Yag pairs kk).1,.string (Yag pairs kk).2] 38)):=HBX.out.alloc HBX.out.size _;revert hXb hXB;generalize (w3.alloc (.cells #[.bool (Yag pairs kk).1,.string (Yag pairs kk).2] 38))=X;intro hXb hXB;have hXW:Below wr.heap.size wr X:=HBW.out.trans (hXB.mono HBW.out.size);have HXW:=Yh hXW;have HMX:Hid (Yaq X mb n { s with vl:=vl' } (l.set i (({ p.1 with last:=Yba p.1 log.length k },p.2):TxV×TxS)) pairs other (log ++ Ycg p.1 pairs log.length (K.take k))):=HM0.out.below hXW;have z0:X.cell? ⟨gk,k*2,none⟩=some (.string kk):=(hXB.cell (by have:=HBW.out.size;simp;omega)).trans q2;have z1:X.cell? ⟨w3.heap.size,0,none⟩=some (.bool (Yag pairs kk).1):=Yaa hXb rfl;have z2:X.cell? ⟨w3.heap.size,1,none⟩=some (.string (Yag pairs kk).2):=Yaa hXb rfl;have hNX:X.heap[w2.heap.size]? = some (.cells #[.bool cb,.string cv] 38 (0,0)):=(hXB.block _ (by have:=HZW.out;omega)).trans HNW.out;have z3:X.cell? ⟨w2.heap.size,0,none⟩=some (.bool cb):=Yaa hNX rfl;have z4:X.cell? ⟨w2.heap.size,1,none⟩=some (.string cv):=Yaa hNX rfl;clear hXb hXB hXW hNX q2 q3 q2' q3';go_wp2_with fail
      go_region_held3 (fun w'=>w'.cell? ⟨gk,k*2,none⟩=some (.string kk)∧w'.cell? ⟨w3.heap.size,0,none⟩=some (.bool (Yag pairs kk).1)∧w'.cell? ⟨w3.heap.size,1,none⟩=some (.string (Yag pairs kk).2)∧w'.cell? ⟨w2.heap.size,0,none⟩=some (.bool cb)∧w'.cell? ⟨w2.heap.size,1,none⟩=some (.string cv))
       (go_keep)
       (first
        | (go_at_call 137;go_must (
         refine (Yha mb g (i*5) n { s with vl:=vl' } cur' (log ++ Ycg p.1 pairs log.length (K.take k)) p.1.id (Yba p.1 log.length k) ⟨1,0,0,0,kk,(Yag pairs kk).1,(Yag pairs kk).2,cb,cv⟩ X.drew HMX.out.cell ((HXW.out.block g hgw0).trans HG0.out.1) (HG0.out.2.2.1 _ _ (Yb4 _ i _ HI0.out 0 _ rfl)) (HG0.out.2.2.1 _ _ (Yb4 _ i _ HI0.out 1 _ rfl)) HMX.out.lg (by rw [List.length_append,Yjx,List.length_take];omega) (Ne.symm HG0.out.2.2.2.2) (fun e=>?hlm) (fun e=>?hlo)).mono ?_
         case hlm=>have:=HMX.out.apart .lg .mod mb e rfl;cases this
         case hlo=>have:=HMX.out.apart .lg .opn g e HG0.out.2.2.2.1;cases this
         rintro e w7 ⟨rfl,hna⟩;obtain ⟨vl2,M7,S7⟩:=Yhb (HMX.out.below (Below.refl _ _).drew) HI0.out HG0.out.2.1 ((HXW.out.block g hgw0).trans HG0.out.1) hna;have hlast:(((log ++ Ycg p.1 pairs log.length (K.take k)).length:Nat):Int)+1=Yba p.1 log.length (k+1):=by
          rw [List.length_append,Yjx,List.length_take,Nat.min_eq_left (by omega)];simp [Yba];omega
         have hent:log ++ Ycg p.1 pairs log.length (K.take (k+1))=log ++ Ycg p.1 pairs log.length (K.take k) ++ [⟨1,p.1.id,Yba p.1 log.length k,0,kk,(Yag pairs kk).1,(Yag pairs kk).2,cb,cv⟩]:=by
          rw [HSn.out,List.append_assoc];simp only [Yin,HCC.out]
         have M7a:=M7;have S7a:=(HS0.out.trans ((Ya9.of_below HM0.out HXW.out).trans (Ya9.of_below HMX.out (Below.refl _ _).drew))).trans S7;rw [List.set_set,hlast,←hent] at M7a;rw [List.set_set,hlast] at S7a;have HM7:=Yh M7a;have HS7:=Yh S7a;have v0:w7.cell? ⟨gk,k*2,none⟩=some (.string kk):=(World.cell?_of_block (a:=⟨gk,k*2,none⟩) (S7.kept _ (World.block_lt_of_cell? X _ z0) HNO1.out)).trans z0;have v1:w7.cell? ⟨w3.heap.size,0,none⟩=some (.bool (Yag pairs kk).1):=(World.cell?_of_block (a:=⟨w3.heap.size,0,none⟩) (S7.kept _ (World.block_lt_of_cell? X _ z1) (HNO2.out (w3.heap.size) (by have:=HBW.out.size;have:=HBX.out.size;omega)))).trans z1;have v2:w7.cell? ⟨w3.heap.size,1,none⟩=some (.string (Yag pairs kk).2):=(World.cell?_of_block (a:=⟨w3.heap.size,1,none⟩) (S7.kept _ (World.block_lt_of_cell? X _ z2) (HNO2.out (w3.heap.size) (by have:=HBW.out.size;have:=HBX.out.size;omega)))).trans z2;have v3:w7.cell? ⟨w2.heap.size,0,none⟩=some (.bool cb):=(World.cell?_of_block (a:=⟨w2.heap.size,0,none⟩) (S7.kept _ (World.block_lt_of_cell? X _ z3) (HNO2.out _ hz2))).trans z3;have v4:w7.cell? ⟨w2.heap.size,1,none⟩=some (.string cv):=(World.cell?_of_block (a:=⟨w2.heap.size,1,none⟩) (S7.kept _ (World.block_lt_of_cell? X _ z4) (HNO2.out _ hz2))).trans z4;clear hna M7 S7 M7a S7a hlast hent)))
      go_wp2;exact ⟨⟨k+1,by omega,by simp,vl2,HM7.out,HS7.out⟩,by simp [intOf];omega⟩)
    ·have hlt':¬(k:Int)<(K.length:Int):=by omega
     obtain rfl:k=K.length:=by omega
     have d3:wr.cell? ⟨g,i*5+3,none⟩=some (.slice aw p.1.writes.length cw):=by rw [HC0.out,HVW.out]
     rw [List.take_length] at HM0;clear M0 S0 hi0 hvt' hcur' hcell' hog' hgm';go_wp2_with (first
      | (go_at_call 137;go_must (
       refine (Yha mb g (i*5) n { s with vl:=vl' } cur' (log ++ Ycg p.1 pairs log.length K) p.1.id (Yba p.1 log.length K.length) ⟨3,0,0,0,ByteArray.empty,false,ByteArray.empty,false,ByteArray.empty⟩ wr HM0.out.cell HG0.out.1 (HG0.out.2.2.1 _ _ (Yb4 _ i _ HI0.out 0 _ rfl)) (HG0.out.2.2.1 _ _ (Yb4 _ i _ HI0.out 1 _ rfl)) HM0.out.lg (by rw [List.length_append,Yjx];omega) (Ne.symm HG0.out.2.2.2.2) (fun e=>?hlm) (fun e=>?hlo)).mono ?_
       case hlm=>have:=HM0.out.apart .lg .mod mb e rfl;cases this
       case hlo=>have:=HM0.out.apart .lg .opn g e HG0.out.2.2.2.1;cases this
       rintro e w7 ⟨rfl,hna⟩;obtain ⟨vl2,M7,S7⟩:=Yhb HM0.out HI0.out HG0.out.2.1 HG0.out.1 hna;rw [List.set_set] at M7 S7;have hi7:(l.set i (({ p.1 with last:=((log ++ Ycg p.1 pairs log.length K).length:Int)+1 },p.2):TxV×TxS))[i]? = some ({ p.1 with last:=((log ++ Ycg p.1 pairs log.length K).length:Int)+1 },p.2):=by rw [List.getElem?_set_self hil]
       obtain ⟨g7,cap7,cur7,hvt7,hcur7,hcell7,hog7,hgm7⟩:=M7.openBlock (by rw [List.length_set];omega);obtain rfl:g=g7:=by
        have h1:=HG.out.2.1;simp only at hvt7;rw [hvt7] at h1;simp at h1;exact h1.1.symm
       have h73:=Yaa hcur7 (hcell7 _ _ (Yb4 _ i _ hi7 3 _ rfl));have HC7:=Yh h73;have HI7:=Yh hi7;have HT:=Yh M7;have HST:=Yh (((Ya9.of_below HH.out HB.out).trans HS0.out).trans S7);have HMW:Hid (mb<w7.heap.size):=M7.lt .mod mb rfl;clear hna M7 S7 hi7 hvt7 hcur7 hcell7 hog7 hgm7 h73))
      | (go_at_call 138;go_must (
       refine (Ymv mb g (i*5) n ({ s with vl:=vl2 }:Ya4) pairs p.2.vw p.1.writes w7 HT.out.cell HT.out.prs HC7.out (HT.out.txs _ (List.mem_of_getElem? HI7.out)).2.1 (by have:=HS.out.prs;omega) (by have:=(HS.out.wrs p (List.mem_of_getElem? hi)).1;omega)).mono ?_;rintro e w2 ⟨v2,rfl,ho2,hn2,hb2⟩;obtain ⟨a2,k2,rfl,_⟩:=Ya6 ho2;have HO2:=Yh ho2;have HN2:=Yh hn2;have HB2:=Yh hb2;have hm2:=(hb2.block mb HMW.out).trans HT.out.cell;have HM2:=Yh hm2;have e3:w2.cell? ⟨mb,3,none⟩=some s.vp:=Yaa hm2 rfl;have f3:=Yah 3 hm2;clear ho2 hn2 hb2 hm2))
      | (go_at_call 139;go_must (
       have hv:=Ymx (w':=w2.setCell ⟨mb,3,none⟩ (.slice a2 (Ybu pairs p.1.writes).length k2)) (vp':=.slice a2 (Ybu pairs p.1.writes).length k2) (pairs':=Ybu pairs p.1.writes) HT.out ((Yak _ _ 3 _ _ _ HM2.out).trans rfl) (fun k h1 h2=>(Below.heap_setCell _ _ _ _ h2).trans (HB2.out.block k h1))
        (Yas HO2.out (fun k hk=>Below.heap_setCell _ _ _ _ (fun e=>by
         have e':k=mb:=e;rcases HN2.out with h1 | h1
         ·rw [h1,e'] at hk;exact (HT.out.imm .mod mb rfl).1 hk
         ·have:=h1 k hk;have:=HMW.out;omega)))
        HN2.out ((HB2.out.mono (Nat.zero_le _)).setCell (p:=⟨mb,3,none⟩) (by simp) _)
       have HV:=Yh hv;have hlV:(w2.setCell ⟨mb,3,none⟩ (.slice a2 (Ybu pairs p.1.writes).length k2)).heap.size=w2.heap.size:=by simp
       have HZ:=Yh hlV;refine (Yjv mb n _ (l.set i (({ p.1 with last:=((log ++ Ycg p.1 pairs log.length K).length:Int)+1 },p.2):TxV×TxS)) _ other (log ++ Ycg p.1 pairs log.length K ++ [⟨3,p.1.id,Yba p.1 log.length K.length,0,ByteArray.empty,false,ByteArray.empty,false,ByteArray.empty⟩]) i _ hv.1 (by rw [List.length_set];exact hil) (by rw [List.length_set];have:=HS.out.opn;omega)).mono ?_;rintro e w4 ⟨v4,rfl,ho4,hb4⟩;obtain ⟨a4,k4,rfl,_⟩:=Ya6 ho4;have hm4:=(hb4.block mb (by rw [hlV];have:=HB2.out.size;have:=HMW.out;omega)).trans hv.1.cell;have e5:w4.cell? ⟨mb,5,none⟩=some s.vt:=Yaa hm4 rfl;have f5:=Yah 5 hm4;have hgn:∀ q,(Value.slice a4 ((l.set i (({ p.1 with last:=((log ++ Ycg p.1 pairs log.length K).length:Int)+1 },p.2):TxV×TxS)).eraseIdx i).length k4).ownBlock=some q→q≠mb:=fun q hq e=>by
        have:=(ho4.lt q hq).1;rw [hlV] at this;have:=HB2.out.size;have:=HMW.out;omega
       have hov:=Yjw (i:=i) (w':=w4.setCell ⟨mb,5,none⟩ (.slice a4 ((l.set i (({ p.1 with last:=((log ++ Ycg p.1 pairs log.length K).length:Int)+1 },p.2):TxV×TxS)).eraseIdx i).length k4)) (vp':=.slice a2 (Ybu pairs p.1.writes).length k2) (vt':=.slice a4 ((l.set i (({ p.1 with last:=((log ++ Ycg p.1 pairs log.length K).length:Int)+1 },p.2):TxV×TxS)).eraseIdx i).length k4) (pairs':=Ybu pairs p.1.writes) hv.1 ((Yak _ _ 5 _ _ _ hm4).trans rfl) (fun k h1 h2=>(Below.heap_setCell _ _ _ _ h2).trans (hb4.block k h1))
        (Yas hv.1.prs (fun k hk=>(Below.heap_setCell _ _ _ _ (fun e=>(hv.1.imm .mod mb rfl).1 (by have e':k=mb:=e;rw [←e'];exact hk))).trans (hb4.block k (hv.1.prs.lt k hk).2)))
        (.inl rfl)
        (Yas ho4 (fun q hq=>Below.heap_setCell _ _ _ _ (hgn q hq)))
        (fun q h1 h2=>by have:=(hv.1.prs.lt q h1).2;omega)
        ((hb4.mono (Nat.zero_le _)).setCell (p:=⟨mb,5,none⟩) (by simp) _)
       have HFIN:=Yh (And.intro hov.1 ((HST.out.trans hv.2).trans hov.2));clear hv hlV ho4 hb4 hm4 hgn hov)))
     go_ret;have hfa:=HFIN.out;rw [List.eraseIdx_set_eq] at hfa;refine ⟨rfl,?_⟩;rw [List.eraseIdx_set_eq,←HK.out];exact ⟨_,_,_,hfa⟩
def Ydm (w:World) (rb:Nat) (ad:Option Addr) (len cap:Nat) (bad:Bool):Prop:=w.heap[rb]? = some (.cells #[.slice ad len cap,.bool bad] 243 (0,0))
theorem Yp5 (rb gb off len cap n:Nat) (bad:Bool) (w:World) (hr:Ydm w rb (some ⟨gb,off,none⟩) len cap bad) (hn:n≤len) (hl:len≤cap) (hc:cap≤1000):
 Calls prog 201 #[.pointer (some ⟨rb,0,none⟩),.int .i64 n] w fun e w'=>e=.returned (.slice (some ⟨gb,off,none⟩) n cap)∧∃ ad,(n<cap→ad=some ⟨gb,off+n,none⟩) ∧
  Ydm w' rb ad (len - n) (cap - n) bad∧(∀ k,k≠rb→w'.heap[k]? = w.heap[k]?)∧w'.heap.size=w.heap.size∧Below 0 w w':=by
 have c0:w.cell? ⟨rb,0,none⟩=some (.slice (some ⟨gb,off,none⟩) len cap):=Yaa hr rfl
 have f0:=Yah 0 hr
 have HR:Hid (∀ u,Ydm (w.setCell ⟨rb,0,none⟩ (.slice u (len - n) (cap - n))) rb u (len - n) (cap - n) bad):=fun u=>Yak w rb 0 _ _ _ hr
 have HO:Hid (∀ u k,k≠rb→(w.setCell ⟨rb,0,none⟩ u).heap[k]? = w.heap[k]?):=fun u k hk=>Below.heap_setCell _ _ _ _ hk
 have hsz:∀ u,(w.setCell ⟨rb,0,none⟩ u).heap.size=w.heap.size:=fun u=>by simp [World.setCell]
 have HZ:=Yh hsz
 have HB:Hid (∀ u,Below 0 w (w.setCell ⟨rb,0,none⟩ u)):=fun u=>⟨rfl,rfl,rfl,by rw [hsz u];exact Nat.le_refl _,fun k hk=>by omega⟩
 clear hr hsz
 by_cases hcn:cap=n
 ·subst hcn
  go_enter func201,ntmps201;go_wp2;go_ret;have h0:=HR.out (some ⟨gb,off,none⟩);obtain rfl:len=cap:=by omega
  simp only [Nat.sub_self] at h0 ⊢;exact ⟨rfl,some ⟨gb,off,none⟩,fun h=>absurd h (by omega),h0,HO.out _,HZ.out _,HB.out _⟩
 ·go_enter func201,ntmps201
  go_wp2;go_ret;exact ⟨rfl,some ⟨gb,off+n,none⟩,fun _=>rfl,HR.out _,HO.out _,HZ.out _,HB.out _⟩
def Ybk (l:List Int):Int:=l.foldl (fun n b=>n*256+b) 0
theorem Yv0 (l:List Int) (b:Int):Ybk (l ++ [b])=Ybk l*256+b:=by simp [Ybk,List.foldl_append]
theorem Yv1 (l:List Int) (h:∀ b∈l,0≤b∧b<256) (hl:l.length≤3):0≤Ybk l∧Ybk l<16777216:=by
 match l,hl with
 | [],_=>simp [Ybk]
 | [a],_=>have:=h a (by simp);simp [Ybk];omega
 | [a,b],_=>have:=h a (by simp);have:=h b (by simp);simp [Ybk];omega
 | [a,b,c],_=>have:=h a (by simp);have:=h b (by simp);have:=h c (by simp);simp [Ybk];omega
theorem Yv2 (a b:Nat) (ha:a<4294967296) (hb:b<4294967296):bits .or .i64 (a:Int) (b:Int)=((a ||| b:Nat):Int):=by
 have hx:a ||| b<2 ^ 32:=Nat.or_lt_two_pow (by omega) (by omega)
 show IntKind.i64.wrap ((BitVec.ofInt 64 (a:Int) ||| BitVec.ofInt 64 (b:Int)).toNat:Int)=_;rw [BitVec.toNat_or,BitVec.toNat_ofInt,BitVec.toNat_ofInt,IntKind.wrap_i64];have e1:((a:Int) % ((2 ^ 64:Nat):Int)).toNat=a:=by omega
 have e2:((b:Int) % ((2 ^ 64:Nat):Int)).toNat=b:=by omega
 rw [e1,e2];omega
theorem Yv3 (q b:Int) (h1:0≤q) (h2:q<16777216) (h3:0≤b) (h4:b<256):bits .or .i64 (wrap64 (q*256)) b=q*256+b:=by
 obtain ⟨n,rfl⟩:=Int.eq_ofNat_of_zero_le h1;obtain ⟨m,rfl⟩:=Int.eq_ofNat_of_zero_le h3;have e1:wrap64 ((n:Int)*256)=((n*256:Nat):Int):=by unfold wrap64;omega
 rw [e1,Yv2 _ _ (by omega) (by omega)];have:=Nat.two_pow_add_eq_or_of_lt (i:=8) (b:=m) (by omega) n;rw [show n*256=2 ^ 8*n by omega,←this];omega
theorem Yhd (rb gb off len cap size:Nat) (bad:Bool) (bs:List Int) (w:World) (hr:Ydm w rb (some ⟨gb,off,none⟩) len cap bad) (hn:size≤len) (hl:len≤cap) (hc:cap≤1000) (hg:gb≠rb)
 (hbl:bs.length=size) (hb:∀ j b,bs[j]? = some b→w.cell? ⟨gb,off+j,none⟩=some (.int .u8 b)∧0≤b∧b<256) (h4:size≤4):
 Calls prog 152 #[.pointer (some ⟨rb,0,none⟩),.int .i64 size] w fun e w'=>e=.returned (.int .i64 (Ybk bs))∧∃ ad,(size<cap→ad=some ⟨gb,off+size,none⟩) ∧
  Ydm w' rb ad (len - size) (cap - size) bad∧(∀ k,k≠rb→w'.heap[k]? = w.heap[k]?)∧w'.heap.size=w.heap.size∧Below 0 w w':=by
 have HBS:=Yh hb
 have KT:=Yp5 rb gb off len cap size bad w hr hn hl hc
 clear hb hr
 go_enter func152,ntmps152
 go_wp2_with (first | (go_at_call 201;go_must (refine KT.mono ?_;rintro e w1 ⟨rfl,ad,had,hr1,ho1,hz1,hb1⟩)))
 have HFIN:Hid (∃ ad,(size<cap→ad=some ⟨gb,off+size,none⟩)∧Ydm w1 rb ad (len - size) (cap - size) bad∧(∀ k,k≠rb→w1.heap[k]? = w.heap[k]?)∧w1.heap.size=w.heap.size∧Below 0 w w1):=⟨ad,had,hr1,ho1,hz1,hb1⟩
 have HC:Hid (∀ j b,bs[j]? = some b→w1.cell? ⟨gb,off+j,none⟩=some (.int .u8 b)∧0≤b∧b<256):=fun j b h=>⟨(World.cell?_of_block (ho1 gb hg)).trans (HBS.out j b h).1,(HBS.out j b h).2⟩
 clear had hr1 ho1 hz1 hb1 KT
 go_loop [5,12] (fun n i=>∃ k:Nat,k≤size∧i=.int .i64 k∧n=.int .i64 (Ybk (bs.take k))) (fun _ i=>size - (intOf i).toNat)
 case atStart=>exact ⟨0,by omega,rfl,rfl⟩
 case round=>
  obtain ⟨k,hk,rfl,rfl⟩:=hrel;by_cases hlt:k<size
  ·obtain ⟨hcb,hb0,hb1⟩:=HC.out k bs[k] (List.getElem?_eq_getElem (by omega))
   generalize hbk:bs[k]=bb at hcb hb0 hb1;have HBK:=Yh hbk;clear hbk;have hlt':(k:Int)<(size:Int):=by omega
   generalize hq:Ybk (bs.take k)=q;go_wp2;have hbd:=Yv1 (bs.take k) (fun b hb=>by obtain ⟨j,hj⟩:=List.getElem?_of_mem (List.mem_of_mem_take hb);exact (HC.out j b hj).2) (by simp;omega);refine ⟨⟨k+1,by omega,by go_num,?_⟩,by simp [intOf];omega⟩;rw [←hq,Yv3 _ _ hbd.1 hbd.2 hb0 hb1,List.take_succ_eq_append_getElem (by omega),Yv0,HBK.out]
  ·go_wp2
   go_ret;refine ⟨?_,HFIN.out⟩;have hks:bs.take k=bs:=List.take_of_length_le (by omega);show Ending.returned (.int .i64 (Ybk (bs.take k)))=_;rw [hks]
theorem Yv4 (n:Int) (bs:List Int) (k:Nat) (hn:0≤n) (hk:k≤4) (hlt:n<2 ^ (8*k)) (h:bs.map (Value.int .u8)=be n k):Ybk bs=n:=by
 match k,hk,bs with
 | 0,_,[]=>simp [Ybk];simp at hlt;omega
 | 1,_,[a]=>simp [be] at h;simp [Ybk];simp at hlt;omega
 | 2,_,[a,b]=>simp [be] at h;simp [Ybk];simp at hlt;omega
 | 3,_,[a,b,c]=>simp [be] at h;simp [Ybk];simp at hlt;omega
 | 4,_,[a,b,c,d]=>simp [be] at h;simp [Ybk];simp at hlt;omega
 | 0,_,_ :: _=>simp [be] at h
 | 1,_,[]=>simp [be] at h
 | 1,_,_ :: _ :: _=>simp [be] at h
 | 2,_,[]=>simp [be] at h
 | 2,_,[_]=>simp [be] at h
 | 2,_,_ :: _ :: _ :: _=>simp [be] at h
 | 3,_,[]=>simp [be] at h
 | 3,_,[_]=>simp [be] at h
 | 3,_,[_,_]=>simp [be] at h
 | 3,_,_ :: _ :: _ :: _ :: _=>simp [be] at h
 | 4,_,[]=>simp [be] at h
 | 4,_,[_]=>simp [be] at h
 | 4,_,[_,_]=>simp [be] at h
 | 4,_,[_,_,_]=>simp [be] at h
 | 4,_,_ :: _ :: _ :: _ :: _ :: _=>simp [be] at h
def beI (n:Int):Nat→List Int
 | 0=>[]
 | k+1=>(n / 2 ^ (8*k) % 256) :: beI n k
theorem Ymy (n:Int) (k:Nat):(beI n k).map (Value.int .u8)=be n k:=by induction k <;> simp_all [be,beI]
theorem Yio (n:Int) (k:Nat):(beI n k).length=k:=by induction k <;> simp_all [beI]
theorem Yjy (n:Int) (k:Nat):∀ b∈beI n k,0≤b∧b<256:=by
 induction k with
 | zero=>simp [beI]
 | succ k ih=>
  intro b hb;simp only [beI,List.mem_cons] at hb;rcases hb with rfl | hb
  ·omega
  ·exact ih b hb
theorem Yip (n:Int) (k:Nat) (hn:0≤n) (hk:k≤4) (hlt:n<2 ^ (8*k)):Ybk (beI n k)=n:=Yv4 n _ k hn hk hlt (Ymy n k)
theorem Yp6 (l:List Int) (h:∀ b∈l,0≤b∧b<256) (hl:l.length=4):0≤Ybk l∧Ybk l<4294967296:=by
 match l,hl with
 | [a,b,c,d],_=>have:=h a (by simp);have:=h b (by simp);have:=h c (by simp);have:=h d (by simp);simp [Ybk];omega
def Yd8 (w:World) (gb off:Nat) (bs:List Int):Prop:=∀ j b,bs[j]? = some b→w.cell? ⟨gb,off+j,none⟩=some (.int .u8 b)∧0≤b∧b<256
theorem Yd8.later {w':World} (h:Yd8 w gb off bs) (hb:w'.heap[gb]? = w.heap[gb]?):Yd8 w' gb off bs:=
 fun j b hj=>⟨(World.cell?_of_block hb).trans (h j b hj).1,(h j b hj).2⟩
theorem Yd8.range (h:Yd8 w gb off bs):∀ b∈bs,0≤b∧b<256:=fun b hb=>by
 obtain ⟨j,hj⟩:=List.getElem?_of_mem hb;exact (h j b hj).2
theorem Yp7 (gb off cap:Nat) (al bs:List Int) (w:World) (hgb:gb<w.heap.size) (hc:8≤cap) (hc':cap≤1000) (ha:Yd8 w gb off al) (hb:Yd8 w gb (off+4) bs) (hal:al.length=4) (hbl:bs.length=4):
 Calls prog 212 #[.slice (some ⟨gb,off,none⟩) 8 cap] w fun e w'=>e=.returned (.agg #[.int .u32 (Ybk al),.int .u32 (Ybk bs)])∧Below w.heap.size w w':=by
 obtain ⟨a0,a1⟩:=Yp6 al ha.range hal
 obtain ⟨b0,b1⟩:=Yp6 bs hb.range hbl
 have tok1:True:=trivial
 have HA:=Yh ha
 have HB:=Yh hb
 have HAL:=Yh hal
 have HBL:=Yh hbl
 obtain ⟨qa,hqa⟩:∃ q,Ybk al=q:=⟨_,rfl⟩
 obtain ⟨qb,hqb⟩:∃ q,Ybk bs=q:=⟨_,rfl⟩
 rw [hqa] at a0 a1 ⊢
 rw [hqb] at b0 b1 ⊢
 have HQA:=Yh hqa
 have HQB:=Yh hqb
 clear ha hb hal hbl hqa hqb
 go_enter func212,ntmps212
 go_wp2_with (first
  | (go_at_call 152;have _t:=tok1;go_must (
   refine (Yhd (w.heap.size+1) gb off 8 cap 4 false al _ ?hr (by omega) hc hc' (by omega) HAL.out ?hb (by omega)).mono ?_
   case hr=>exact heap_alloc2_new w _ _
   case hb=>exact HA.out.later (by rw [Below.heap_alloc _ _ _ (by simp;omega),Below.heap_alloc _ _ _ hgb])
   rintro e w1 ⟨rfl,ad,had,hr1,ho1,hz1,hb1⟩;obtain rfl:=had (by omega);have hgw:w1.heap[gb]? = w.heap[gb]?:=by rw [ho1 gb (by omega),Below.heap_alloc _ _ _ (by simp;omega),Below.heap_alloc _ _ _ hgb]
   have HR1:=Yh hr1;have HB1:Hid (Yd8 w1 gb (off+4) bs):=HB.out.later hgw;have HO1:=Yh ho1;have HZ1:Hid (w1.heap.size=w.heap.size+2):=by rw [Hid,hz1];simp
   have HK1:Hid (Below 0 w w1):=(((Below.refl 0 w).alloc (by omega) _).alloc (by omega) _).trans hb1;rw [HQA.out];clear tok1 hgw hr1 ho1 hz1 hb1 had HA HB))
  | (go_at_call 152;go_must (
   refine (Yhd (w.heap.size+1) gb (off+4) (8 - 4) (cap - 4) 4 false bs _ HR1.out (by omega) (by omega) (by omega) (by omega) HBL.out HB1.out (by omega)).mono ?_;rintro e w2 ⟨rfl,ad2,had2,hr2,ho2,hz2,hb2⟩;have HO2:Hid (∀ k,k≠w.heap.size+1→w2.heap[k]? = ((w.alloc (.cells #[.int .u32 0,.int .u32 0] 168)).alloc (.cells #[.slice (some ⟨gb,off,none⟩) 8 cap,.bool false] 243)).heap[k]?):=fun k hk=>(ho2 k hk).trans (HO1.out k hk)
   have HK2:Hid (Below 0 w w2):=HK1.out.trans hb2;have HZ2:Hid (w2.heap.size=w.heap.size+2):=hz2.trans HZ1.out;have hc2:w2.heap[w.heap.size]? = some (.cells #[.int .u32 0,.int .u32 0] 168 (0,0)):=(HO2.out _ (by omega)).trans (heap_alloc2_old w _ _);have f0:=Yah 0 hc2;have f1:=Yah 1 hc2;have g0:=Yaa (j:=0) hc2 rfl;have g1:=Yaa (j:=1) hc2 rfl;rw [HQB.out];have HC2:=Yh hc2;clear had2 hr2 ho2 hz2 hb2 HR1 HB1 HO1 HZ1 HK1 hc2)))
 have hfin:=Yak _ w.heap.size 1 (.int .u32 qb) _ 168 (Yak w2 w.heap.size 0 (.int .u32 qa) _ 168 HC2.out)
 refine bodyPost_ret (v:=.agg #[.int .u32 qa,.int .u32 qb]) ?_ rfl ⟨rfl,?_⟩
 ·exact results_cell_row Tryz.results212 _ _ w.heap.size 168 #[.int .u32 qa,.int .u32 qb] (0,0) _ rfl hfin underlying168 rfl (by kernel_rfl)
 ·have hb0:Below w.heap.size w w2:=⟨HK2.out.os,HK2.out.tape,HK2.out.output,HK2.out.size,fun k hk=>?_⟩
  ·exact (hb0.setCell (p:=⟨w.heap.size,0,none⟩) (Nat.le_refl _) _).setCell (p:=⟨w.heap.size,1,none⟩) (Nat.le_refl _) _
  rw [HO2.out k (by omega),Below.heap_alloc _ _ _ (by simp;omega),Below.heap_alloc _ _ _ hk]
end Go.Proofs.YtihbngfbcnojcaaGreat
