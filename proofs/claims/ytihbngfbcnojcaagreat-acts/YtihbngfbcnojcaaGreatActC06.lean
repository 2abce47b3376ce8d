import Derived.Test.YtihbngfbcnojcaaGreatActC05
import Derived.Lib.Overlaps
import Derived.Lib.Strings
import Derived.Lib.Walk
import Derived.Lib.BufferWrite
import Derived.Lib.UnsafeStr
import Derived.Lib.Hide
import Derived.Laws.MakeOwn
import Derived.WalkKit
import Derived.RangeFuncNested
import Derived.RangeFuncBound
import Derived.RangeFuncCalls
import Derived.RangeFuncLeaves
import Derived.Shelf.Abstract
import Derived.Shelf.RegionOpen
import Derived.OwnWalkIn
import Derived.TacticsInMore
import Derived.LoopNIn
import Derived.LoopIn
set_option maxRecDepth 100000
set_option maxHeartbeats 8000000
namespace Go.Proofs.YtihbngfbcnojcaaGreat
open Go.RowKit Tryz
variable {xs:List Value} {v:Value} {w:World}
def Ydh (ws:Ycl):Yaf:=ws.foldl (fun q p=>Yaw q p.1 true ByteArray.empty) []
theorem Yqp:∀ (ws:Ycl) (ps:Yaf),(ws.foldl (fun q p=>Yaw q p.1 true ByteArray.empty) ps).length≤ps.length+ws.length
 | [],ps=>by simp
 | p :: r,ps=>by
  have h1:=Yqp r (Yaw ps p.1 true ByteArray.empty);have h2:=Ym9 ps p.1 ByteArray.empty true;simp only [List.foldl_cons,List.length_cons];omega
def Yba (t:TxV) (len k:Nat):Int:=if k=0 then t.last else (len:Int)+k
def Yiw (t:TxV) (pairs:Yaf) (len k:Nat) (key:ByteArray):Yac:=⟨1,t.id,Yba t len k,0,key,(Yag pairs key).1,(Yag pairs key).2,((Yb3 t.writes key).getD (false,ByteArray.empty)).1,((Yb3 t.writes key).getD (false,ByteArray.empty)).2⟩
def Ych (t:TxV) (pairs:Yaf) (len:Nat) (ks:Yaf):List Yac:=ks.mapIdx fun j q=>Yiw t pairs len j q.1
theorem Ywp (t:TxV) (pairs:Yaf) (len:Nat) (ks:Yaf) (k:Nat) (h:k<ks.length):Ych t pairs len (ks.take (k+1))=Ych t pairs len (ks.take k) ++ [Yiw t pairs len k ks[k].1]:=by
 rw [Ych,Ych,List.take_succ_eq_append_getElem h,List.mapIdx_concat,List.length_take,Nat.min_eq_left (by omega)]
theorem Yj3 (t:TxV) (pairs:Yaf) (len:Nat) (ks:Yaf):(Ych t pairs len ks).length=ks.length:=by simp [Ych]
theorem Ywq (mb:Nat) (n:Ya0) (s:Ya4) (l:List (TxV×TxS)) (pairs other:Yaf) (log:List Yac) (t:Int) (i:Nat) (p:TxV×TxS) (w:World) (h:Yaq w mb n s l pairs other log) (hs:Yhd l pairs log) (hm:n.mode=1) (hd:n.dead=false) (hf:Ya5 l t=some i) (hi:l[i]? = some p) (hw:p.1.writes≠[]) (hlg:log.length≤5000):
 Calls prog 96 #[.pointer (some ⟨mb,0,none⟩),.int .i64 t] w fun e w'=>e=.returned (.int .i64 0) ∧
  ∃ vp' vt' vl',Yaq w' mb n { s with vp:=vp',vt:=vt',vl:=vl' } (l.eraseIdx i) (Ybu pairs p.1.writes) other (log ++ Ych p.1 pairs log.length (Ydh p.1.writes) ++ [⟨3,p.1.id,Yba p.1 log.length (Ydh p.1.writes).length,0,ByteArray.empty,false,ByteArray.empty,false,ByteArray.empty⟩])∧Ya9 w w' mb s { s with vp:=vp',vt:=vt',vl:=vl' } l (l.eraseIdx i):=by
 have hil:i<l.length:=(List.getElem?_eq_some_iff.1 hi).1
 have hil':(i:Int)<(l.length:Int):=by omega
 have HH:=Yh h
 have HS:=Yh hs
 have HF:Hid (Ye7 (Ya5 l t)=(i:Int)):=by show _=_;rw [hf];rfl
 obtain ⟨g,cap,cur,hvt,hcur,hcell,hog,hgm⟩:=h.openBlock (by omega)
 have c0:w.cell? ⟨mb,0,none⟩=some (.int .i64 1):=Yaa h.cell (by rw [←hm];rfl)
 have c1:w.cell? ⟨mb,1,none⟩=some (.bool false):=Yaa h.cell (by rw [←hd];rfl)
 have c5:w.cell? ⟨mb,5,none⟩=some (.slice (some ⟨g,0,none⟩) l.length cap):=by rw [←hvt];exact Yaa h.cell rfl
 have tw:=h.txs p (List.mem_of_getElem? hi)
 obtain ⟨aw,cw,hvw,_⟩:=Ya6 tw.2.1
 have c3:w.cell? ⟨g,i*5+3,none⟩=some (.slice aw p.1.writes.length cw):=by
  have:=Yaa hcur (hcell _ _ (Yb4 l i p hi 3 _ rfl));rw [this,hvw]
 have hwl:0<p.1.writes.length:=by
  cases hq:p.1.writes with
  | nil=>exact absurd hq hw
  | cons=>simp
 have hwl':(0:Int)<(p.1.writes.length:Int):=by omega
 have HG:Hid (w.heap[g]? = some (.cells cur 200 (0,0))∧s.vt=.slice (some ⟨g,0,none⟩) l.length cap∧(∀ (j:Nat) u,(Ya2 l)[j]? = some u→cur[j]? = some u)∧Yai mb s l .opn=some g∧g≠mb):=⟨hcur,hvt,hcell,hog,hgm⟩
 have HVW:=Yh hvw
 have hmw:mb<w.heap.size:=h.lt .mod mb rfl
 have hgw:g<w.heap.size:=h.lt .opn g hog
 clear h hs hvt hcur hcell hog tw hvw hf hw hd hm hgm
 go_enter func96,ntmps96
 go_wp2_with (first
  | (go_at_call 133;go_must (
   refine (Yer mb n s l t w HH.out.cell HH.out.opn (by have:=HS.out.opn;omega)).mono ?_;rw [HF.out];rintro e w' ⟨rfl,rfl⟩)))
 go_loopw [7,8] (fun u j wr=>∃ k:Nat,k≤p.1.writes.length∧j=.int .i64 k∧wr.ownsRow w.heap.size 43 2 u (Ydh (p.1.writes.take k)).length (Yad (Ydh (p.1.writes.take k)))∧Below w.heap.size w wr) (fun _ j _=>p.1.writes.length - (intOf j).toNat)
 case atStart=>exact ⟨0,by omega,rfl,World.ownsRow_nil _ _ _ _,Below.refl _ _⟩
 case round=>
  obtain ⟨k,hk,rfl,hrow,hbr⟩:=hrel;have HB:=Yh hbr;have HR:=Yh hrow;have d3:wr.cell? ⟨g,i*5+3,none⟩=some (.slice aw p.1.writes.length cw):=(hbr.cell hgw).trans c3;have hl:(Ydh (p.1.writes.take k)).length≤_:=Yqp (p.1.writes.take k) [];have hl2:(p.1.writes.take k).length≤p.1.writes.length:=by rw [List.length_take];omega
  have hl3:=(HS.out.wrs p (List.mem_of_getElem? hi)).1;have hwz:=hbr.size;by_cases hlt:k<p.1.writes.length
  ·have hlt':(k:Int)<(p.1.writes.length:Int):=by omega
   have hpr:wr.ownsRow 0 206 3 (.slice aw p.1.writes.length cw) p.1.writes.length (Yco p.1.writes):=by
    have:=(HH.out.txs p (List.mem_of_getElem? hi)).2.1;rw [HVW.out] at this;exact Ybe this hbr (fun g hg=>(this.lt g hg).2)
   obtain ⟨gq,cap',he⟩:=Ybn hpr (by omega);simp only [Value.slice.injEq] at he;obtain ⟨rfl,-,rfl⟩:=he;obtain ⟨d0,_,_⟩:=Yiv p.1.writes k p.1.writes[k] (List.getElem?_eq_getElem hlt);have e0:=Yal hpr d0;have HSt:Hid (Ydh (p.1.writes.take (k+1))=Yaw (Ydh (p.1.writes.take k)) p.1.writes[k].1 true ByteArray.empty):=by
    show _=_;rw [List.take_succ_eq_append_getElem hlt,Ydh,List.foldl_append];rfl
   have HL:Hid ((Ydh (p.1.writes.take k)).length≤50000):=by show _≤_;simp only [List.length_nil] at hl;omega
   clear d0 hpr hrow hbr hl hl2;generalize Ydh (p.1.writes.take k)=M at HR HSt HL;generalize p.1.writes[k].1=k0 at e0 HSt;go_wp2_with (first
    | (go_at_call 134;go_must (
     refine (Yk4 w.heap.size _ M k0 true ByteArray.empty wr HR.out (by have:=HL.out;omega)).mono ?_;rintro e w2 ⟨v2,rfl,ho2,hb2⟩;have HR2:Hid (w2.ownsRow w.heap.size 43 2 v2 (Yaw M k0 true ByteArray.empty).length (Yad (Yaw M k0 true ByteArray.empty))):=Yfg ho2 (by omega);have HB2:Hid (Below w.heap.size w w2):=HB.out.trans (hb2.mono (by omega));clear ho2 hb2)))
   exact ⟨⟨k+1,by omega,by simp,by rw [HSt.out];exact HR2.out,HB2.out⟩,by simp [intOf];omega⟩
  ·have hlt':¬(k:Int)<(p.1.writes.length:Int):=by omega
   have hkk:p.1.writes.take k=p.1.writes:=List.take_of_length_le (by omega);rw [hkk] at HR hl;clear hrow hbr;obtain ⟨K,hK⟩:∃ K,K=Ydh p.1.writes:=⟨_,rfl⟩;rw [←hK] at HR hl;have hKl:K.length≤1000:=by simp only [List.length_nil] at hl;omega
   obtain ⟨uk,ck,rfl,_⟩:=Ya6 HR.out;have HK:=Yh hK;clear hK hl hl2 hl3 hkk;have H1:Hid (Yaq wr mb n s l pairs other log):=HH.out.below HB.out;obtain ⟨w1,hw1⟩:∃ w1,w1=wr:=⟨_,rfl⟩;subst hw1;have hself:l.set i p=l:=by
    obtain ⟨h1,h2⟩:=List.getElem?_eq_some_iff.1 hi;rw [←h2];exact List.set_getElem_self h1
   have HSELF:Hid (l.set i ({ p.1 with last:=Yba p.1 log.length 0 },p.2)=l):=hself;have hl3:=(HS.out.wrs p (List.mem_of_getElem? hi)).1;have hll3:=HS.out.log;clear hself;go_wp2;clear d3 c0 c1 c5 c3;go_loopw [9] (fun j wr=>∃ k:Nat,k≤K.length∧j=.int .i64 k∧∃ vl',Yaq wr mb n { s with vl:=vl' } (l.set i ({ p.1 with last:=Yba p.1 log.length k },p.2)) pairs other (log ++ Ych p.1 pairs log.length (K.take k))∧Ya9 w1 wr mb s { s with vl:=vl' } l (l.set i ({ p.1 with last:=Yba p.1 log.length k },p.2))) (fun j _=>K.length - (intOf j).toNat)
   case atStart=>
    refine ⟨0,by omega,rfl,s.vl,?_,?_⟩
    ·rw [HSELF.out];simpa [Ych] using H1.out
    ·rw [HSELF.out];exact Ya9.of_below H1.out (Below.refl _ _)
   case round=>
    obtain ⟨k,hk,rfl,vl',M0,S0⟩:=hrel;have HM0:=Yh M0;have HS0:=Yh S0;have hi0:(l.set i (({ p.1 with last:=Yba p.1 log.length k },p.2):TxV×TxS))[i]? = some ({ p.1 with last:=Yba p.1 log.length k },p.2):=by rw [List.getElem?_set_self hil]
    obtain ⟨g',cap',cur',hvt',hcur',hcell',hog',hgm'⟩:=M0.openBlock (by rw [List.length_set];omega);obtain rfl:g=g':=by
     have h1:=HG.out.2.1;simp only at hvt';rw [hvt'] at h1;simp at h1;exact h1.1.symm
    have HG0:Hid (wr.heap[g]? = some (.cells cur' 200 (0,0))∧s.vt=.slice (some ⟨g,0,none⟩) (l.set i (({ p.1 with last:=Yba p.1 log.length k },p.2):TxV×TxS)).length cap'∧(∀ (j:Nat) u,(Ya2 (l.set i (({ p.1 with last:=Yba p.1 log.length k },p.2):TxV×TxS)))[j]? = some u→cur'[j]? = some u)∧Yai mb { s with vl:=vl' } (l.set i (({ p.1 with last:=Yba p.1 log.length k },p.2):TxV×TxS)) .opn=some g∧g≠mb):=⟨hcur',hvt',hcell',hog',hgm'⟩;have HI0:=Yh hi0;have HC0:Hid (wr.cell? ⟨g,i*5+3,none⟩=some p.2.vw):=Yaa hcur' (hcell' _ _ (Yb4 _ i _ hi0 3 _ rfl));have hmw0:mb<wr.heap.size:=M0.lt .mod mb rfl;have hgw0:g<wr.heap.size:=M0.lt .opn g hog';have HRK:Hid (wr.ownsRow w.heap.size 43 2 (.slice uk K.length ck) K.length (Yad K)):=Yas HR.out (fun q hq=>S0.kept q (HR.out.lt q hq).2 (fun a e=>by
     have h1:=(HR.out.lt q hq).1;have h2:=HH.out.lt a q e;omega))
    by_cases hlt:k<K.length
    ·have hlt':(k:Int)<(K.length:Int):=by omega
     obtain ⟨gk,ck',he⟩:=Ybn HRK.out (by omega);simp only [Value.slice.injEq] at he;obtain ⟨rfl,-,rfl⟩:=he;have e0:=Yal HRK.out (Ye2 K k K[k] (List.getElem?_eq_getElem hlt)).1;have hgk:gk<wr.heap.size:=(HRK.out.lt gk rfl).2;have HSn:=Yh (Ywp p.1 pairs log.length K k hlt);have HNO1:Hid (∀ a,Yai mb { s with vl:=vl' } (l.set i (({ p.1 with last:=Yba p.1 log.length k },p.2):TxV×TxS)) a≠some gk):=fun a e=>by
      rcases S0.blks a gk e with ⟨b',hb'⟩ | h1
      ·have h2:=HH.out.lt b' gk hb'
       have h3:=(HR.out.lt gk rfl).1;omega
      ·have h3:=(HR.out.lt gk rfl).2
       omega
     have HNO2:Hid (∀ q,wr.heap.size≤q→∀ a,Yai mb { s with vl:=vl' } (l.set i (({ p.1 with last:=Yba p.1 log.length k },p.2):TxV×TxS)) a≠some q):=fun q hq a e=>by
      have:=M0.lt a q e;omega
     clear M0 S0 hi0 hvt' hcur' hcell' hog' hgm';generalize K[k].1=kk at e0 HSn;go_wp2_with (first
      | (go_at_call 135;go_must (
       refine (Yk8 g (i*5) p.2.vw p.1.writes kk wr HC0.out (HM0.out.txs _ (List.mem_of_getElem? HI0.out)).2.1 (by omega)).mono ?_;generalize hcc:(Yb3 p.1.writes kk).getD (false,ByteArray.empty)=cc;obtain ⟨cb,cv⟩:=cc;have HCC:=Yh hcc;rintro e w2 ⟨rfl,hb2⟩;have HB2:=Yh hb2;have hz2:=hb2.size;have e2:w2.cell? ⟨gk,k*2,none⟩=some (.string kk):=(hb2.cell hgk).trans e0;have e3:w2.cell? ⟨mb,3,none⟩=some s.vp:=(hb2.cell hmw0).trans (Yaa HM0.out.cell rfl);clear hcc hb2)))
     have hB2:Below wr.heap.size wr (w2.alloc (.cells #[.bool cb,.string cv] 38)):=HB2.out.alloc hz2 _;have hN2:=heap_alloc_new w2 (.cells #[.bool cb,.string cv] 38);have hZ2:(w2.alloc (.cells #[.bool cb,.string cv] 38)).heap.size=w2.heap.size+1:=by simp
     revert hB2 hN2 hZ2;generalize w2.alloc (.cells #[.bool cb,.string cv] 38)=W2;intro hB2 hN2 hZ2;have q2:W2.cell? ⟨gk,k*2,none⟩=some (.string kk):=(hB2.cell hgk).trans e0;have q3:W2.cell? ⟨mb,3,none⟩=some s.vp:=(hB2.cell hmw0).trans (Yaa HM0.out.cell rfl);have HBW:=Yh hB2;have HNW:=Yh hN2;have HZW:=Yh hZ2;have HPW:Hid (W2.ownsRow 0 43 2 s.vp pairs.length (Yad pairs)):=(HM0.out.below hB2).prs;clear hB2 hN2 hZ2 e2 e3 e0;have nn1:W2.heap.size≠gk:=World.new_ne W2 _ q2;have nn2:W2.heap.size≠mb:=World.new_ne W2 _ q3;go_region_held3 (fun w'=>w'.cell? ⟨gk,k*2,none⟩=some (.string kk)∧w'.cell? ⟨mb,3,none⟩=some s.vp)
      (go_keep)
      (first
       | (
        go_at_call 136;refine (Yk3 0 s.vp pairs kk (W2.drew.alloc (.cells #[.bool false,.string ByteArray.empty] 38)) (World.ownsRow.alloc (w:=W2.drew) HPW.out _)).mono ?_;rintro e w3 ⟨rfl,hb3⟩;have hx3:w3.heap[W2.heap.size]? = some (.cells #[.bool false,.string ByteArray.empty] 38 (0,0)):=(hb3.block _ (by simp)).trans (heap_alloc_new W2.drew _);have x0:w3.cell? ⟨W2.heap.size,0,none⟩=some (.bool false):=Yaa hx3 rfl;have x1:w3.cell? ⟨W2.heap.size,1,none⟩=some (.string ByteArray.empty):=Yaa hx3 rfl;have y0:=Yah 0 hx3;have y1:=Yah 1 hx3;have HX3:=Yh hx3;have hBX:Below W2.heap.size W2 w3:=((Below.refl _ _).drew.alloc (by simp) _).trans (hb3.mono (by simp));have HBX:=Yh hBX;have n1:gk≠W2.heap.size:=by have:=HBW.out.size;omega
        have n2:mb≠W2.heap.size:=by have:=HBW.out.size;omega
        have q2':w3.cell? ⟨gk,k*2,none⟩=some (.string kk):=(hBX.cell (by have:=HBW.out.size;simp;omega)).trans q2;have q3':w3.cell? ⟨mb,3,none⟩=some s.vp:=(hBX.cell (by have:=HBW.out.size;simp;omega)).trans q3;clear hx3 hBX hb3)
       | (
        go_at_call 136;go_must (
        refine (Yk3 0 s.vp pairs kk W2.drew HPW.out).mono ?_;rintro e w3 ⟨rfl,hb3⟩;have hBX:Below W2.heap.size W2 w3:=(Below.refl _ _).drew.trans hb3;have HBX:=Yh hBX;have n1:gk<w3.heap.size:=by have:=HBW.out.size;have:=hBX.size;omega
        have n2:mb<w3.heap.size:=by have:=HBW.out.size;have:=hBX.size;omega
        have q2':w3.cell? ⟨gk,k*2,none⟩=some (.string kk):=(hBX.cell (by have:=HBW.out.size;simp;omega)).trans q2;have q3':w3.cell? ⟨mb,3,none⟩=some s.vp:=(hBX.cell (by have:=HBW.out.size;simp;omega)).trans q3;clear hBX hb3)))
     all_goals first
     | (
      have hA:=HX3.out;clear hA;have hXb:((w3.setCell ⟨W2.heap.size,0,none⟩ (.bool (Yag pairs kk).1)).setCell ⟨W2.heap.size,1,none⟩ (.string (Yag pairs kk).2)).heap[W2.heap.size]? = some (.cells #[.bool (Yag pairs kk).1,.string (Yag pairs kk).2] 38 (0,0)):=(Yak _ _ 1 _ _ _ (Yak _ _ 0 _ _ _ HX3.out)).trans rfl;have hXB:Below W2.heap.size W2 ((w3.setCell ⟨W2.heap.size,0,none⟩ (.bool (Yag pairs kk).1)).setCell ⟨W2.heap.size,1,none⟩ (.string (Yag pairs kk).2)):=(HBX.out.setCell (p:=⟨W2.heap.size,0,none⟩) (Nat.le_refl _) _).setCell (p:=⟨W2.heap.size,1,none⟩) (Nat.le_refl _) _;revert hXb hXB;generalize ((w3.setCell ⟨W2.heap.size,0,none⟩ (.bool (Yag pairs kk).1)).setCell ⟨W2.heap.size,1,none⟩ (.string (Yag pairs kk).2))=X;intro hXb hXB;have hXW:Below wr.heap.size wr X:=HBW.out.trans (hXB.mono HBW.out.size);have HXW:=Yh hXW;have HMX:Hid (Yaq X mb n { s with vl:=vl' } (l.set i (({ p.1 with last:=Yba p.1 log.length k },p.2):TxV×TxS)) pairs other (log ++ Ych p.1 pairs log.length (K.take k))):=HM0.out.below hXW;have z0:X.cell? ⟨gk,k*2,none⟩=some (.string kk):=(hXB.cell (by have:=HBW.out.size;simp;omega)).trans q2;have z1:X.cell? ⟨W2.heap.size,0,none⟩=some (.bool (Yag pairs kk).1):=Yaa hXb rfl;have z2:X.cell? ⟨W2.heap.size,1,none⟩=some (.string (Yag pairs kk).2):=Yaa hXb rfl;have hNX:X.heap[w2.heap.size]? = some (.cells #[.bool cb,.string cv] 38 (0,0)):=(hXB.block _ (by have:=HZW.out;omega)).trans HNW.out;have z3:X.cell? ⟨w2.heap.size,0,none⟩=some (.bool cb):=Yaa hNX rfl;have z4:X.cell? ⟨w2.heap.size,1,none⟩=some (.string cv):=Yaa hNX rfl;clear hXb hXB hXW hNX q2 q3 q2' q3';go_wp2_with fail
      go_region_held3 (fun w'=>w'.cell? ⟨gk,k*2,none⟩=some (.string kk)∧w'.cell? ⟨W2.heap.size,0,none⟩=some (.bool (Yag pairs kk).1)∧w'.cell? ⟨W2.heap.size,1,none⟩=some (.string (Yag pairs kk).2)∧w'.cell? ⟨w2.heap.size,0,none⟩=some (.bool cb)∧w'.cell? ⟨w2.heap.size,1,none⟩=some (.string cv))
       (go_keep)
       (first
        | (go_at_call 137;go_must (
         refine (Yhb mb g (i*5) n { s with vl:=vl' } cur' (log ++ Ych p.1 pairs log.length (K.take k)) p.1.id (Yba p.1 log.length k) ⟨1,0,0,0,kk,(Yag pairs kk).1,(Yag pairs kk).2,cb,cv⟩ X.drew HMX.out.cell ((HXW.out.block g hgw0).trans HG0.out.1) (HG0.out.2.2.1 _ _ (Yb4 _ i _ HI0.out 0 _ rfl)) (HG0.out.2.2.1 _ _ (Yb4 _ i _ HI0.out 1 _ rfl)) HMX.out.lg (by rw [List.length_append,Yj3,List.length_take];omega) (Ne.symm HG0.out.2.2.2.2) (fun e=>?hlm) (fun e=>?hlo)).mono ?_
         case hlm=>have:=HMX.out.apart .lg .mod mb e rfl;cases this
         case hlo=>have:=HMX.out.apart .lg .opn g e HG0.out.2.2.2.1;cases this
         rintro e w7 ⟨rfl,hna⟩;obtain ⟨vl2,M7,S7⟩:=Yhc (HMX.out.below (Below.refl _ _).drew) HI0.out HG0.out.2.1 ((HXW.out.block g hgw0).trans HG0.out.1) hna;have hlast:(((log ++ Ych p.1 pairs log.length (K.take k)).length:Nat):Int)+1=Yba p.1 log.length (k+1):=by
          rw [List.length_append,Yj3,List.length_take,Nat.min_eq_left (by omega)];simp [Yba];omega
         have hent:log ++ Ych p.1 pairs log.length (K.take (k+1))=log ++ Ych p.1 pairs log.length (K.take k) ++ [⟨1,p.1.id,Yba p.1 log.length k,0,kk,(Yag pairs kk).1,(Yag pairs kk).2,cb,cv⟩]:=by
          rw [HSn.out,List.append_assoc];simp only [Yiw,HCC.out]
         have M7a:=M7;have S7a:=(HS0.out.trans ((Ya9.of_below HM0.out HXW.out).trans (Ya9.of_below HMX.out (Below.refl _ _).drew))).trans S7;rw [List.set_set,hlast,←hent] at M7a;rw [List.set_set,hlast] at S7a;have HM7:=Yh M7a;have HS7:=Yh S7a;have v0:w7.cell? ⟨gk,k*2,none⟩=some (.string kk):=(World.cell?_of_block (a:=⟨gk,k*2,none⟩) (S7.kept _ (World.block_lt_of_cell? X _ z0) HNO1.out)).trans z0;have v1:w7.cell? ⟨W2.heap.size,0,none⟩=some (.bool (Yag pairs kk).1):=(World.cell?_of_block (a:=⟨W2.heap.size,0,none⟩) (S7.kept _ (World.block_lt_of_cell? X _ z1) (HNO2.out (W2.heap.size) (by have:=HBW.out.size;have:=HBX.out.size;omega)))).trans z1;have v2:w7.cell? ⟨W2.heap.size,1,none⟩=some (.string (Yag pairs kk).2):=(World.cell?_of_block (a:=⟨W2.heap.size,1,none⟩) (S7.kept _ (World.block_lt_of_cell? X _ z2) (HNO2.out (W2.heap.size) (by have:=HBW.out.size;have:=HBX.out.size;omega)))).trans z2;have v3:w7.cell? ⟨w2.heap.size,0,none⟩=some (.bool cb):=(World.cell?_of_block (a:=⟨w2.heap.size,0,none⟩) (S7.kept _ (World.block_lt_of_cell? X _ z3) (HNO2.out _ hz2))).trans z3;have v4:w7.cell? ⟨w2.heap.size,1,none⟩=some (.string cv):=(World.cell?_of_block (a:=⟨w2.heap.size,1,none⟩) (S7.kept _ (World.block_lt_of_cell? X _ z4) (HNO2.out _ hz2))).trans z4;clear hna M7 S7 M7a S7a hlast hent)))
      go_wp2;exact ⟨⟨k+1,by omega,by simp,vl2,HM7.out,HS7.out⟩,by simp [intOf];omega⟩)
     | (
      have hA:=HBX.out;clear hA;have hXb:(w3.alloc (.cells #[.bool (Yag pairs kk).1,.string (Yag pairs kk).2] 38)).heap[w3.heap.size]? = some (.cells #[.bool (Yag pairs kk).1,.string (Yag pairs kk).2] 38 (0,0)):=heap_alloc_new w3 _;have hXB:Below W2.heap.size W2 (w3.alloc (.cells #[.bool (Yag pairs kk).1,.string (Yag pairs kk).2] 38)):=HBX.out.alloc HBX.out.size _;revert hXb hXB;generalize (w3.alloc (.cells #[.bool (Yag pairs kk).1,.string (Yag pairs kk).2] 38))=X;intro hXb hXB;have hXW:Below wr.heap.size wr X:=HBW.out.trans (hXB.mono HBW.out.size);have HXW:=Yh hXW;have HMX:Hid (Yaq X mb n { s with vl:=vl' } (l.set i (({ p.1 with last:=Yba p.1 log.length k },p.2):TxV×TxS)) pairs other (log ++ Ych p.1 pairs log.length (K.take k))):=HM0.out.below hXW;have z0:X.cell? ⟨gk,k*2,none⟩=some (.string kk):=(hXB.cell (by have:=HBW.out.size;simp;omega)).trans q2;have z1:X.cell? ⟨w3.heap.size,0,none⟩=some (.bool (Yag pairs kk).1):=Yaa hXb rfl;have z2:X.cell? ⟨w3.heap.size,1,none⟩=some (.string (Yag pairs kk).2):=Yaa hXb rfl;have hNX:X.heap[w2.heap.size]? = some (.cells #[.bool cb,.string cv] 38 (0,0)):=(hXB.block _ (by have:=HZW.out;omega)).trans HNW.out;have z3:X.cell? ⟨w2.heap.size,0,none⟩=some (.bool cb):=Yaa hNX rfl;have z4:X.cell? ⟨w2.heap.size,1,none⟩=some (.string cv):=Yaa hNX rfl;clear hXb hXB hXW hNX q2 q3 q2' q3';go_wp2_with fail
      go_region_held3 (fun w'=>w'.cell? ⟨gk,k*2,none⟩=some (.string kk)∧w'.cell? ⟨w3.heap.size,0,none⟩=some (.bool (Yag pairs kk).1)∧w'.cell? ⟨w3.heap.size,1,none⟩=some (.string (Yag pairs kk).2)∧w'.cell? ⟨w2.heap.size,0,none⟩=some (.bool cb)∧w'.cell? ⟨w2.heap.size,1,none⟩=some (.string cv))
       (go_keep)
       (first
        | (go_at_call 137;go_must (
         refine (Yhb mb g (i*5) n { s with vl:=vl' } cur' (log ++ Ych p.1 pairs log.length (K.take k)) p.1.id (Yba p.1 log.length k) ⟨1,0,0,0,kk,(Yag pairs kk).1,(Yag pairs kk).2,cb,cv⟩ X.drew HMX.out.cell ((HXW.out.block g hgw0).trans HG0.out.1) (HG0.out.2.2.1 _ _ (Yb4 _ i _ HI0.out 0 _ rfl)) (HG0.out.2.2.1 _ _ (Yb4 _ i _ HI0.out 1 _ rfl)) HMX.out.lg (by rw [List.length_append,Yj3,List.length_take];omega) (Ne.symm HG0.out.2.2.2.2) (fun e=>?hlm) (fun e=>?hlo)).mono ?_
         case hlm=>have:=HMX.out.apart .lg .mod mb e rfl;cases this
         case hlo=>have:=HMX.out.apart .lg .opn g e HG0.out.2.2.2.1;cases this
         rintro e w7 ⟨rfl,hna⟩;obtain ⟨vl2,M7,S7⟩:=Yhc (HMX.out.below (Below.refl _ _).drew) HI0.out HG0.out.2.1 ((HXW.out.block g hgw0).trans HG0.out.1) hna;have hlast:(((log ++ Ych p.1 pairs log.length (K.take k)).length:Nat):Int)+1=Yba p.1 log.length (k+1):=by
          rw [List.length_append,Yj3,List.length_take,Nat.min_eq_left (by omega)];simp [Yba];omega
         have hent:log ++ Ych p.1 pairs log.length (K.take (k+1))=log ++ Ych p.1 pairs log.length (K.take k) ++ [⟨1,p.1.id,Yba p.1 log.length k,0,kk,(Yag pairs kk).1,(Yag pairs kk).2,cb,cv⟩]:=by
          rw [HSn.out,List.append_assoc];simp only [Yiw,HCC.out]
         have M7a:=M7;have S7a:=(HS0.out.trans ((Ya9.of_below HM0.out HXW.out).trans (Ya9.of_below HMX.out (Below.refl _ _).drew))).trans S7;rw [List.set_set,hlast,←hent] at M7a;rw [List.set_set,hlast] at S7a;have HM7:=Yh M7a;have HS7:=Yh S7a;have v0:w7.cell? ⟨gk,k*2,none⟩=some (.string kk):=(World.cell?_of_block (a:=⟨gk,k*2,none⟩) (S7.kept _ (World.block_lt_of_cell? X _ z0) HNO1.out)).trans z0;have v1:w7.cell? ⟨w3.heap.size,0,none⟩=some (.bool (Yag pairs kk).1):=(World.cell?_of_block (a:=⟨w3.heap.size,0,none⟩) (S7.kept _ (World.block_lt_of_cell? X _ z1) (HNO2.out (w3.heap.size) (by have:=HBW.out.size;have:=HBX.out.size;omega)))).trans z1;have v2:w7.cell? ⟨w3.heap.size,1,none⟩=some (.string (Yag pairs kk).2):=(World.cell?_of_block (a:=⟨w3.heap.size,1,none⟩) (S7.kept _ (World.block_lt_of_cell? X _ z2) (HNO2.out (w3.heap.size) (by have:=HBW.out.size;have:=HBX.out.size;omega)))).trans z2;have v3:w7.cell? ⟨w2.heap.size,0,none⟩=some (.bool cb):=(World.cell?_of_block (a:=⟨w2.heap.size,0,none⟩) (S7.kept _ (World.block_lt_of_cell? X _ z3) (HNO2.out _ hz2))).trans z3;have v4:w7.cell? ⟨w2.heap.size,1,none⟩=some (.string cv):=(World.cell?_of_block (a:=⟨w2.heap.size,1,none⟩) (S7.kept _ (World.block_lt_of_cell? X _ z4) (HNO2.out _ hz2))).trans z4;clear hna M7 S7 M7a S7a hlast hent)))
      go_wp2;exact ⟨⟨k+1,by omega,by simp,vl2,HM7.out,HS7.out⟩,by simp [intOf];omega⟩)
    ·have hlt':¬(k:Int)<(K.length:Int):=by omega
     obtain rfl:k=K.length:=by omega
     have d3:wr.cell? ⟨g,i*5+3,none⟩=some (.slice aw p.1.writes.length cw):=by rw [HC0.out,HVW.out]
     rw [List.take_length] at HM0;clear M0 S0 hi0 hvt' hcur' hcell' hog' hgm';go_wp2_with (first
      | (go_at_call 137;go_must (
       refine (Yhb mb g (i*5) n { s with vl:=vl' } cur' (log ++ Ych p.1 pairs log.length K) p.1.id (Yba p.1 log.length K.length) ⟨3,0,0,0,ByteArray.empty,false,ByteArray.empty,false,ByteArray.empty⟩ wr HM0.out.cell HG0.out.1 (HG0.out.2.2.1 _ _ (Yb4 _ i _ HI0.out 0 _ rfl)) (HG0.out.2.2.1 _ _ (Yb4 _ i _ HI0.out 1 _ rfl)) HM0.out.lg (by rw [List.length_append,Yj3];omega) (Ne.symm HG0.out.2.2.2.2) (fun e=>?hlm) (fun e=>?hlo)).mono ?_
       case hlm=>have:=HM0.out.apart .lg .mod mb e rfl;cases this
       case hlo=>have:=HM0.out.apart .lg .opn g e HG0.out.2.2.2.1;cases this
       rintro e w7 ⟨rfl,hna⟩;obtain ⟨vl2,M7,S7⟩:=Yhc HM0.out HI0.out HG0.out.2.1 HG0.out.1 hna;rw [List.set_set] at M7 S7;have hi7:(l.set i (({ p.1 with last:=((log ++ Ych p.1 pairs log.length K).length:Int)+1 },p.2):TxV×TxS))[i]? = some ({ p.1 with last:=((log ++ Ych p.1 pairs log.length K).length:Int)+1 },p.2):=by rw [List.getElem?_set_self hil]
       obtain ⟨g7,cap7,cur7,hvt7,hcur7,hcell7,hog7,hgm7⟩:=M7.openBlock (by rw [List.length_set];omega);obtain rfl:g=g7:=by
        have h1:=HG.out.2.1;simp only at hvt7;rw [hvt7] at h1;simp at h1;exact h1.1.symm
       have h73:=Yaa hcur7 (hcell7 _ _ (Yb4 _ i _ hi7 3 _ rfl));have HC7:=Yh h73;have HI7:=Yh hi7;have HT:=Yh M7;have HST:=Yh (((Ya9.of_below HH.out HB.out).trans HS0.out).trans S7);have HMW:Hid (mb<w7.heap.size):=M7.lt .mod mb rfl;clear hna M7 S7 hi7 hvt7 hcur7 hcell7 hog7 hgm7 h73))
      | (go_at_call 138;go_must (
       refine (Yne mb g (i*5) n ({ s with vl:=vl2 }:Ya4) pairs p.2.vw p.1.writes w7 HT.out.cell HT.out.prs HC7.out (HT.out.txs _ (List.mem_of_getElem? HI7.out)).2.1 (by have:=HS.out.prs;omega) (by have:=(HS.out.wrs p (List.mem_of_getElem? hi)).1;omega)).mono ?_;rintro e w2 ⟨v2,rfl,ho2,hn2,hb2⟩;obtain ⟨a2,k2,rfl,_⟩:=Ya6 ho2;have HO2:=Yh ho2;have HN2:=Yh hn2;have HB2:=Yh hb2;have hm2:=(hb2.block mb HMW.out).trans HT.out.cell;have HM2:=Yh hm2;have e3:w2.cell? ⟨mb,3,none⟩=some s.vp:=Yaa hm2 rfl;have f3:=Yah 3 hm2;clear ho2 hn2 hb2 hm2))
      | (go_at_call 139;go_must (
       have hv:=Yng (w':=w2.setCell ⟨mb,3,none⟩ (.slice a2 (Ybu pairs p.1.writes).length k2)) (vp':=.slice a2 (Ybu pairs p.1.writes).length k2) (pairs':=Ybu pairs p.1.writes) HT.out ((Yak _ _ 3 _ _ _ HM2.out).trans rfl) (fun k h1 h2=>(Below.heap_setCell _ _ _ _ h2).trans (HB2.out.block k h1))
        (Yas HO2.out (fun k hk=>Below.heap_setCell _ _ _ _ (fun e=>by
         have e':k=mb:=e;rcases HN2.out with h1 | h1
         ·rw [h1,e'] at hk;exact (HT.out.imm .mod mb rfl).1 hk
         ·have:=h1 k hk;have:=HMW.out;omega)))
        HN2.out ((HB2.out.mono (Nat.zero_le _)).setCell (p:=⟨mb,3,none⟩) (by simp) _)
       have HV:=Yh hv;have hlV:(w2.setCell ⟨mb,3,none⟩ (.slice a2 (Ybu pairs p.1.writes).length k2)).heap.size=w2.heap.size:=by simp
       have HZ:=Yh hlV;refine (Yj1 mb n _ (l.set i (({ p.1 with last:=((log ++ Ych p.1 pairs log.length K).length:Int)+1 },p.2):TxV×TxS)) _ other (log ++ Ych p.1 pairs log.length K ++ [⟨3,p.1.id,Yba p.1 log.length K.length,0,ByteArray.empty,false,ByteArray.empty,false,ByteArray.empty⟩]) i _ hv.1 (by rw [List.length_set];exact hil) (by rw [List.length_set];have:=HS.out.opn;omega)).mono ?_;rintro e w4 ⟨v4,rfl,ho4,hb4⟩;obtain ⟨a4,k4,rfl,_⟩:=Ya6 ho4;have hm4:=(hb4.block mb (by rw [hlV];have:=HB2.out.size;have:=HMW.out;omega)).trans hv.1.cell;have e5:w4.cell? ⟨mb,5,none⟩=some s.vt:=Yaa hm4 rfl;have f5:=Yah 5 hm4;have hgn:∀ q,(Value.slice a4 ((l.set i (({ p.1 with last:=((log ++ Ych p.1 pairs log.length K).length:Int)+1 },p.2):TxV×TxS)).eraseIdx i).length k4).ownBlock=some q→q≠mb:=fun q hq e=>by
        have:=(ho4.lt q hq).1;rw [hlV] at this;have:=HB2.out.size;have:=HMW.out;omega
       have hov:=Yj2 (i:=i) (w':=w4.setCell ⟨mb,5,none⟩ (.slice a4 ((l.set i (({ p.1 with last:=((log ++ Ych p.1 pairs log.length K).length:Int)+1 },p.2):TxV×TxS)).eraseIdx i).length k4)) (vp':=.slice a2 (Ybu pairs p.1.writes).length k2) (vt':=.slice a4 ((l.set i (({ p.1 with last:=((log ++ Ych p.1 pairs log.length K).length:Int)+1 },p.2):TxV×TxS)).eraseIdx i).length k4) (pairs':=Ybu pairs p.1.writes) hv.1 ((Yak _ _ 5 _ _ _ hm4).trans rfl) (fun k h1 h2=>(Below.heap_setCell _ _ _ _ h2).trans (hb4.block k h1))
        (Yas hv.1.prs (fun k hk=>(Below.heap_setCell _ _ _ _ (fun e=>(hv.1.imm .mod mb rfl).1 (by have e':k=mb:=e;rw [←e'];exact hk))).trans (hb4.block k (hv.1.prs.lt k hk).2)))
        (.inl rfl)
        (Yas ho4 (fun q hq=>Below.heap_setCell _ _ _ _ (hgn q hq)))
        (fun q h1 h2=>by have:=(hv.1.prs.lt q h1).2;omega)
        ((hb4.mono (Nat.zero_le _)).setCell (p:=⟨mb,5,none⟩) (by simp) _)
       have HFIN:=Yh (And.intro hov.1 ((HST.out.trans hv.2).trans hov.2));clear hv hlV ho4 hb4 hm4 hgn hov)))
     go_ret;have hfa:=HFIN.out;rw [List.eraseIdx_set_eq] at hfa;refine ⟨rfl,?_⟩;rw [List.eraseIdx_set_eq,←HK.out];exact ⟨_,_,_,hfa⟩
theorem Yj4 {P:Program} (w:World) (dT sT ty elem:TypeId) (size b o dLen dCap:Nat) (a:Addr) (sLen sCap n:Nat) (cs:List Value)
 (hu:P.underlying dT=some (.slice elem)) (hs:(P.info? elem).map (·.size)=some size) (hm:Nat.min sLen dLen=n) (hn:cs.length=n*size)
 (hsrc:∀ j v,cs[j]? = some v→w.cell? (a.add j)=some v) (hc:∀ j,j<cs.length→(w.cell? ⟨b,o+j,none⟩).isSome=true) (hf:∀ j,j<cs.length→w.frozen? ⟨b,o+j,none⟩=false) (h1:∀ v∈cs,v.oneCell'=true):
 (Builtin.copy_ #[dT,sT] ty #[.slice (some ⟨b,o,none⟩) dLen dCap,.slice (some a) sLen sCap]).run P w=.ok (goInt n) (w.setCells b o cs):=by
 have hl:=run_loadCells_list (P:=P) w a cs hsrc
 have hst:=run_storeCells_cells (P:=P) b o cs 0 w (by simpa using hc) (by simpa using hf) h1
 cases hq:P.info? elem with
 | none=>simp [hq] at hs
 | some i=>
  have hi:i.size=size:=by simpa [hq] using hs
  simp [Builtin.copy_,run_underlying hu,Builtin.lenOf,Builtin.firstCells,sizeOf,typeInfo,hq,hi,hm,←hn,hl,hst]
theorem Ywr {ops:Array Oper} {rest:List Oper} {o:Oper} {ac:Act} {Q:Exit→Act→World→Prop} (hgd:o.guard=none) (s x:Operand)
 (ho:o.op=.call { callee:=.builtin .append,args:=#[s,x],argTypes:=#[34,34] }) (base:Nat) (v:Value) (l:Yaf) (n:Nat) (hln:l.length=n) (hs:ac.eval s=v) (hown:w.ownsRow base 43 2 v n (Yad l))
 (g:Nat) (a b:ByteArray) (hx:ac.eval x=.slice (some ⟨g,0,none⟩) 1 1) (hg:w.heap[g]? = some (.cells #[.string a,.string b] 43 (0,0))) (hlen:n≤1000000) (hbase:base≤w.heap.size)
 (h:∀ v' w',w'.ownsRow base 43 2 v' (n+1) (Yad (l ++ [(a,b)]))→w.grownBy w' v.ownBlock→(v'.ownBlock=v.ownBlock∨v'.ownBlock=some w.heap.size)→wpList prog ops Q rest (ac.put o.dst v') w'):wpList prog ops Q (o :: rest) ac w:=by
 subst hln
 obtain ⟨i0,hi,hz0,hz1,hz2⟩:=info_parts Ygk
 refine wpList_append_own_at w hgd s x 34 ho base 43 i0 _ 2 32 underlying34 hi hz0 hz1 hz2 rfl (by decide) v l.length (Yad l) hs hown ⟨g,0,none⟩ 1 1 [.string a,.string b] hx rfl (fun j u hu=>by rw [Ydg];exact Yaa hg (by simpa using hu)) (fun x hx=>by simp at hx;rcases hx with rfl | rfl <;> rfl) (by unfold maxLen;omega) (by omega) hbase ?_
 intro v' w' h1 h2 _ h4
 exact h v' w' (by have:=Yp5 h1;simpa using this) h2 h4
def Ygo (w w':World) (v v':Value) (n:Nat) (l:Yaf):Prop:=w'.ownsRow 0 43 2 v' n (Yad l)∧(∀ k,k<w.heap.size→v.ownBlock≠some k→w'.heap[k]? = w.heap[k]?)∧(v'.ownBlock=v.ownBlock∨∃ k,w.heap.size≤k∧v'.ownBlock=some k)∧Below 0 w w'
theorem Yws (v:Value) (a:Nat) (A:Yaf) (p:ByteArray×ByteArray) (gv:Nat) (w:World) (hA:A.length=a) (hown:w.ownsRow 0 43 2 v a (Yad A)) (hgv:w.heap[gv]? = some (.cells #[.string p.1,.string p.2] 43 (0,0))) (hlen:a≤100000):
 Calls prog 160 #[v,.int .i64 a,.slice (some ⟨gv,0,none⟩) 1 1] w fun e w'=>∃ v',e=.returned v'∧Ygo w w' v v' (a+1) (A ++ [p]):=by
 obtain ⟨ad,cap,rfl,_⟩:=Ya6 hown
 have hcap:a≤cap:=by
  rcases hown.2 with ⟨h,h0⟩ | ⟨g',cap',cur,h1,h2,h3,h4,h5,h6,h7⟩
  ·omega
  ·simp at h1;omega
 have e1:(a:Int)≤(a:Int):=by omega
 have e2:(a:Int)≤100000:=by omega
 have HO:=Yh hown
 have HG:=Yh hgv
 clear hown hgv
 by_cases hca:cap=a
 all_goals
  (try subst hca);go_enter func160,ntmps160;go_wp2_with (first | (at_builtin;go_must (
   refine Ywr rfl _ _ rfl 0 _ A _ hA rfl HO.out gv p.1 p.2 rfl HG.out (by omega) (by omega) ?_;intro v4 w4 hown4 hg4 hat4;have hg5:w.grownBy w4 (Value.slice ad 0 0).ownBlock:=by cases ad <;> exact hg4
   have hat5:v4.ownBlock=(Value.slice ad 0 0).ownBlock∨v4.ownBlock=some w.heap.size:=by cases ad <;> exact hat4
   clear hg4 hat4)))
  all_goals
   go_ret;refine ⟨_,rfl,hown4,fun k hk hne=>hg5.block k hk (fun e=>hne (by cases ad <;> exact e.symm)),?_,⟨hg5.os,hg5.tape,hg5.output,hg5.size,fun k hk=>by omega⟩⟩;rcases hat5 with h | h
   ·refine .inl ?_
    cases ad <;> exact h
   ·exact .inr ⟨_,Nat.le_refl _,h⟩
theorem Yqq {b:Nat} {cs:Array Value} {t:TypeId} {fz:Nat×Nat} (h:w.heap[b]? = some (.cells cs t fz)):w.shape? b=some (t,cs.size):=by
 simp [World.shape?,h]
theorem Ywt (g cap a r:Nat) (A B:Yaf) (p:ByteArray×ByteArray) (gv:Nat) (w:World) (hA:A.length=a) (hB:B.length=r+1) (hown:w.ownsRow 0 43 2 (.slice (some ⟨g,0,none⟩) (a+1+r) cap) (a+1+r) (Yad (A ++ B))) (hgv:w.heap[gv]? = some (.cells #[.string p.1,.string p.2] 43 (0,0)))
 (hne:gv≠g) (hlen:a+1+r≤100000) (hroom:a+1+r<cap):
 Calls prog 160 #[.slice (some ⟨g,0,none⟩) (a+1+r) cap,.int .i64 a,.slice (some ⟨gv,0,none⟩) 1 1] w fun e w'=>∃ v',e=.returned v'∧Ygo w w' (.slice (some ⟨g,0,none⟩) (a+1+r) cap) v' (a+1+r+1) (A ++ p :: B):=by
 obtain ⟨i0,hi0,hz0,hz1,hz2⟩:=info_parts Ygk
 obtain ⟨rest,hg,hl1,hl2,hcap,hmax⟩:=Yjy hown
 obtain ⟨c,rfl⟩:∃ c,cap=a+1+r+1+c:=⟨cap - (a+1+r+1),by omega⟩
 have HG:Hid (w.heap[g]? = some (.cells (Yad (A ++ B) ++ rest).toArray 43 (0,0))∧w.heap[gv]? = some (.cells #[.string p.1,.string p.2] 43 (0,0))):=⟨hg,hgv⟩
 have HL:Hid ((Yad A).length=a*2∧(Yad B).length=(r+1)*2∧rest.length=(c+1)*2∧a+1+r+1+c≤maxLen):=⟨by rw [Yds,hA],by rw [Yds,hB],by omega,hmax⟩
 clear hown hg hl1 hl2 hcap hmax hA hB hroom hgv
 have e1:(a:Int)≤(a:Int)+1+(r:Int):=by omega
 have e2:((a:Int) == (a:Int)+1+(r:Int))=false:=by simp;omega
 have e3:¬((a:Int)+1+(r:Int)+1+(c:Int)<(a:Int)+1+(r:Int)+1):=by omega
 have e4:(a:Int)+1+(r:Int)+1≤(a:Int)+1+(r:Int)+1+(c:Int):=by omega
 have e5:(a:Int)+1≤(a:Int)+1+(r:Int)+1:=by omega
 have e6:(0:Int)≤(a:Int)+1:=by omega
 have e7:(0:Int)≤(a:Int)+1+(r:Int)+1:=by omega
 have e8:(a:Int)≤(a:Int)+1+(r:Int)+1:=by omega
 have e9:(a:Int)+1+(r:Int)≤100000:=by omega
 have hszP:∀ w,(Go.sizeOf 43).run prog w=.ok 2 w:=fun w=>by simp [Go.sizeOf,typeInfo,hi0,hz1]
 have hov:∀ lb cb,(callFunc 207 #[.slice (some ⟨gv,0,none⟩) 1 1,.slice (some ⟨g,(a+1)*2,none⟩) lb cb]).run prog w=.ok (.value (.bool false)) w:=fun lb cb=>by
  rw [run_callFunc_extern func207 (by kernel_rfl) (by kernel_rfl) (by kernel_rfl) (e:=Extern.SlicesOverlaps.overlaps #[34,34] #[4]) (by kernel_rfl),
   Lib.run_overlaps_apart w 34 4 43 underlying34 2 hszP ⟨gv,0,none⟩ ⟨g,(a+1)*2,none⟩ 1 1 lb cb hne 43 43 _ _ (Yqq HG.out.2) (Yqq HG.out.1) (by have h1:=HL.out.2.2.1;rw [List.size_toArray,List.length_append];omega) (Yah 0 HG.out.2) (Yah _ HG.out.2)]
  rfl
 go_enter func160,ntmps160
 go_wp2_with (simp only [hov])
 have hszM:(prog.info? 43).map (·.size)=some 2:=by rw [hi0];simp [hz1]
 obtain ⟨b0,B',rfl⟩:∃ b0 B',B=b0 :: B':=by
  match B,HL with
  | [],HL=>have:=HL.out.2.1;simp [Yad] at this
  | b0 :: B',_=>exact ⟨b0,B',rfl⟩
 obtain ⟨x0,x1,rest',rfl⟩:∃ x0 x1 rest',rest=x0 :: x1 :: rest':=by
  match rest,HL with
  | [],HL=>have:=HL.out.2.2.1;simp at this
  | [x0],HL=>have:=HL.out.2.2.1;simp at this;omega
  | x0 :: x1 :: rest',_=>exact ⟨x0,x1,rest',rfl⟩
 have HB':Hid ((Yad B').length=r*2∧rest'.length=c*2):=by
  have h1:=HL.out.2.1;have h2:=HL.out.2.2.1;rw [Yds] at h1;simp at h1 h2;exact ⟨by rw [Yds];omega,by omega⟩
 have HG0:Hid (w.drew.heap[g]? = some (.cells (Yad A ++ [Value.string b0.1,.string b0.2] ++ (Yad B' ++ [x0,x1]) ++ rest').toArray 43 (0,0))):=by
  show _=_;refine HG.out.1.trans ?_;simp [Yad]
 have HG1:Hid ((w.drew.setCells g ((a+1)*2) (Yad (b0 :: B'))).heap[g]? = some (.cells (Yad A ++ [Value.string b0.1,.string b0.2] ++ Yad (b0 :: B') ++ rest').toArray 43 (0,0))):=by
  have:=Yh3 (w:=w.drew) (g:=g) (t:=43) (Yad A ++ [Value.string b0.1,.string b0.2]) (Yad B' ++ [x0,x1]) rest' (Yad (b0 :: B')) HG0.out (by have h1:=HL.out.2.1;have h2:=HB'.out.1;rw [h1,List.length_append,h2];simp;omega);have hl:(Yad A ++ [Value.string b0.1,.string b0.2]).length=(a+1)*2:=by rw [List.length_append,HL.out.1];simp;omega
  rw [hl] at this;exact this
 have HC1:Hid (∀ j,j<(Yad (b0 :: B')).length→(w.drew.cell? ⟨g,(a+1)*2+j,none⟩).isSome=true):=by
  intro j hj;have h1:=HL.out.2.1;rw [Yaa HG0.out (Array.getElem?_eq_getElem (show (a+1)*2+j<_ by have h2:=HL.out.1;have h3:=HB'.out;simp;omega))];rfl
 have hcp1:∀ ty dl dc sl sc,dl=r+1→sl=r+2→(Builtin.copy_ #[34,34] ty #[.slice (some ⟨g,(a+1)*2,none⟩) dl dc,.slice (some ⟨g,a*2,none⟩) sl sc]).run prog w.drew=.ok (goInt (r+1:Nat)) (w.drew.setCells g ((a+1)*2) (Yad (b0 :: B'))):=fun ty dl dc sl sc hdl hsl=>by
  refine Yj4 w.drew _ _ ty 43 2 g ((a+1)*2) dl dc ⟨g,a*2,none⟩ sl sc (r+1) (Yad (b0 :: B')) underlying34 hszM (by simp only [Nat.min_def];split <;> omega) HL.out.2.1 (fun j v hj=>?_) HC1.out (fun j hj=>Yah _ HG0.out) (Yjx _);rw [Addr.add_mid];refine Yaa HG.out.1 ?_;rw [List.getElem?_toArray,Yg5,List.append_assoc,List.getElem?_append_right (by rw [HL.out.1];omega),HL.out.1,show a*2+j - a*2=j by omega,List.getElem?_append_left ((List.getElem?_eq_some_iff.1 hj).1)];exact hj
 have HCP1:=Yh hcp1
 obtain ⟨W1,hW1⟩:∃ W1,W1=w.drew.setCells g ((a+1)*2) (Yad (b0 :: B')):=⟨_,rfl⟩
 rw [←hW1] at HG1 HCP1
 have HF1:Hid ((∀ k,k≠g→W1.heap[k]? = w.heap[k]?)∧Below 0 w W1):=by
  obtain ⟨f1,f2⟩:=Yiu (Yad (b0 :: B')) w.drew g ((a+1)*2);rw [hW1];exact ⟨f1,(Below.refl _ _).drew.trans f2⟩
 clear hcp1 hW1 HC1
 have hcp2:∀ ty dl dc,1≤dl→(Builtin.copy_ #[34,34] ty #[.slice (some ⟨g,a*2,none⟩) dl dc,.slice (some ⟨gv,0,none⟩) 1 1]).run prog W1=.ok (goInt (1:Nat)) (W1.setCells g (a*2) [.string p.1,.string p.2]):=fun ty dl dc hdl=>by
  have hgv1:=(HF1.out.1 gv hne).trans HG.out.2;refine Yj4 W1 _ _ ty 43 2 g (a*2) dl dc ⟨gv,0,none⟩ 1 1 1 [.string p.1,.string p.2] underlying34 hszM (by simp only [Nat.min_def];split <;> omega) rfl (fun j v hj=>?_) (fun j hj=>?_) (fun j hj=>Yah _ HG1.out) (by intro v hv;simp at hv;rcases hv with rfl | rfl <;> rfl)
  ·rw [Ydg];exact Yaa hgv1 (by simpa using hj)
  ·rw [Yaa HG1.out (Array.getElem?_eq_getElem (show a*2+j<_ by have h2:=HL.out.1;simp at hj ⊢;omega))]
   rfl
 have HCP2:=Yh hcp2
 clear hcp2
 have HFIN:Hid (Ygo w (W1.setCells g (a*2) [.string p.1,.string p.2]) (.slice (some ⟨g,0,none⟩) (a+1+r) (a+1+r+1+c)) (.slice (some ⟨g,0,none⟩) (a+1+r+1) (a+1+r+1+c)) (a+1+r+1) (A ++ p :: b0 :: B')):=by
  obtain ⟨f1,f2⟩:=Yiu [Value.string p.1,.string p.2] W1 g (a*2);refine ⟨?_,fun k _ hk=>(f1 k (fun e=>hk (by rw [e];rfl))).trans (HF1.out.1 k (fun e=>hk (by rw [e];rfl))),.inl rfl,HF1.out.2.trans f2⟩;have h4:=Yh3 (w:=W1) (g:=g) (t:=43) (Yad A) [Value.string b0.1,.string b0.2] (Yad (b0 :: B') ++ rest') [Value.string p.1,.string p.2] (HG1.out.trans (by simp)) rfl;rw [HL.out.1] at h4;refine Yjz (rest:=rest') (Nat.zero_le _) (h4.trans (by simp [Yad])) ?_ ?_ (by omega) HL.out.2.2.2
  ·have h1:=HL.out.1;have h2:=HL.out.2.1
   rw [Yds] at h1 h2 ⊢;simp at h1 h2 ⊢;omega
  ·have h1:=HL.out.1;have h2:=HL.out.2.1;have h3:=HB'.out.2
   rw [Yds] at h1 h2 ⊢;simp at h1 h2 ⊢;omega
 have q1:¬(a+1+r+1+c=a+1):=by omega
 have q2:¬(a+1+r+1+c=a):=by omega
 have q3:a≤a+1+r+1:=by omega
 have q4:a+1≤a+1+r+1:=by omega
 have q5:IntKind.i64.wrap ((a:Int)+1)=(a:Int)+1:=by rw [IntKind.wrap_i64];omega
 have q6:((a:Int)+1).toNat=a+1:=by omega
 have hq:∀ ty dc sc,Sem.run prog (Builtin.copy_ #[34,34] ty #[.slice (some ⟨g,(a+1)*2,none⟩) (a+1+r - a) dc,.slice (some ⟨g,a*2,none⟩) (a+1+r+1 - a) sc]) w.drew=.ok (goInt (r+1:Nat)) W1:=fun ty dc sc=>HCP1.out ty _ dc _ sc (by omega) (by omega)
 go_region
 clear hq
 have hq2:∀ ty dc,Sem.run prog (Builtin.copy_ #[34,34] ty #[.slice (some ⟨g,a*2,none⟩) (a+1+r+1 - a) dc,.slice (some ⟨gv,0,none⟩) 1 1]) W1=.ok (goInt (1:Nat)) (W1.setCells g (a*2) [.string p.1,.string p.2]):=fun ty dc=>HCP2.out ty _ dc (by omega)
 go_wp2
 go_ret
 exact ⟨_,rfl,HFIN.out⟩
def Yd9 (n:Nat):List Value:=Yad (List.replicate n (ByteArray.empty,ByteArray.empty))
theorem Yix (n:Nat):(Yd9 n).length=n*2:=by rw [Yd9,Yds,List.length_replicate]
theorem Ywu (n:Nat):Builtin.zeroCells (Value.agg #[.string ByteArray.empty,.string ByteArray.empty]).cells n=(Yd9 n).toArray:=by
 apply Array.ext
 ·simp [size_zeroCells,Value.cells,Yix]
 ·intro i h1 h2
  have hi:i<n*2:=by simpa [Yix] using h2
  have hv:(Yd9 n)[i]? = some (.string ByteArray.empty):=by
   obtain ⟨h3,h4⟩:=Ye2 (List.replicate n (ByteArray.empty,ByteArray.empty)) (i / 2) (ByteArray.empty,ByteArray.empty) (by rw [List.getElem?_replicate,if_pos (by omega)]);rcases Nat.mod_two_eq_zero_or_one i with h | h
   ·rw [show i=i / 2*2 by omega];exact h3
   ·rw [show i=i / 2*2+1 by omega];exact h4
  have hv':(Yd9 n).toArray[i]=Value.string ByteArray.empty:=by
   have:=List.getElem?_eq_some_iff.1 hv;obtain ⟨_,h⟩:=this;simpa using h
  rw [hv'];simp only [Builtin.zeroCells,Value.cells,Array.getElem_map,Array.getElem_range];rcases Nat.mod_two_eq_zero_or_one i with h | h
  ·simp [h]
  ·simp [h]
theorem Ywv {g cap k:Nat} (n:Nat) (ty:TypeId) (hown:w.ownsRow 0 43 2 (.slice (some ⟨g,0,none⟩) k cap) k xs) (hs:k+n≤1000000) (hc:cap<k+n):
 ∃ c rest,(Builtin.append_ #[34,3] ty #[.slice (some ⟨g,0,none⟩) k cap,.int .i64 n]).run prog w=.ok (.slice (some ⟨w.heap.size,0,none⟩) (k+n) c) (w.drew.alloc (.cells (xs ++ Yd9 n ++ rest).toArray 43 (0,0)))∧(k+n)*2+rest.length=c*2∧k+n≤c∧c≤maxLen:=by
 obtain ⟨i,hi,hz,h1,hy⟩:=info_parts Ygk
 have ht:=underlying34
 have hu:=underlying3
 have hw:IntKind.i64.wrap (n:Int)=n:=by rw [IntKind.wrap_i64];omega
 have hneg:¬((n:Int)<0):=by omega
 have h48i:¬(281474976710656<(n:Int)*32):=by omega
 have hcl:grownCap w (k+n) cap 43≤maxLen:=grownCap_le_maxLen w _ _ 43 (by unfold maxLen;omega)
 have hge:=grownCap_ge w (k+n) cap 43
 refine ⟨grownCap w (k+n) cap 43,Yd9 (grownCap w (k+n) cap 43 - (k+n)),?_,by rw [Yix];omega,hge,hcl⟩
 have hn:¬(k+n≤cap):=by omega
 have h63':¬(9223372036854775807<((k:Int)+(n:Int))):=by omega
 have hf:(Builtin.firstCells 2 k (.slice (some ⟨g,0,none⟩) k cap)).run prog w.drew=.ok xs.toArray w.drew:=by
  exact run_firstCells_some (P:=prog) w.drew 2 k ⟨g,0,none⟩ k cap xs (by simpa using hown.1) (by simpa using hown.cells (g:=g) rfl)
 have h0:¬n=0:=by
  rcases hown.2 with ⟨h,_⟩ | ⟨g',cap',cur,h,_,hg,hle,_,_,htake⟩
  ·cases h
  ·simp at h;omega
 have h48':¬(281474976710656<Builtin.nextslicecap (k+n) cap*32):=by
  have:=growslice_fits (bytes:=32) hc (by omega);omega
 simp [Builtin.append_,run_underlying ht,run_underlying hu,sizeOf,typeInfo,zeroValue,hi,hz,h1,hy,asInt,asIntOf,hw,hneg,h48i,hn,h63',h48',Ywu,Question.forced,hf,newRow,grownCap]
 intro h
 omega
theorem Yww (g a r:Nat) (A B:Yaf) (p:ByteArray×ByteArray) (gv:Nat) (w:World) (hA:A.length=a) (hB:B.length=r+1) (hown:w.ownsRow 0 43 2 (.slice (some ⟨g,0,none⟩) (a+1+r) (a+1+r)) (a+1+r) (Yad (A ++ B))) (hgv:w.heap[gv]? = some (.cells #[.string p.1,.string p.2] 43 (0,0)))
 (hlen:a+1+r≤100000):
 Calls prog 160 #[.slice (some ⟨g,0,none⟩) (a+1+r) (a+1+r),.int .i64 a,.slice (some ⟨gv,0,none⟩) 1 1] w fun e w'=>∃ v',e=.returned v'∧Ygo w w' (.slice (some ⟨g,0,none⟩) (a+1+r) (a+1+r)) v' (a+1+r+1) (A ++ p :: B):=by
 obtain ⟨i0,hi0,hz0,hz1,hz2⟩:=info_parts Ygk
 obtain ⟨rest,hg,hl1,hl2,hcap,hmax⟩:=Yjy hown
 obtain rfl:rest=[]:=List.eq_nil_of_length_eq_zero (by omega)
 have HL:Hid ((Yad A).length=a*2∧(Yad B).length=(r+1)*2):=⟨by rw [Yds,hA],by rw [Yds,hB]⟩
 have hownA:w.ownsRow 0 43 2 (.slice (some ⟨g,0,none⟩) a (a+1+r)) a (Yad A):=by
  refine Yjz (rest:=Yad B) (Nat.zero_le _) (hg.trans (by rw [Yg5];simp)) HL.out.1 (by rw [HL.out.1,HL.out.2];omega) (by omega) hmax
 have HG:Hid (w.heap[g]? = some (.cells (Yad A ++ Yad B).toArray 43 (0,0))∧w.heap[gv]? = some (.cells #[.string p.1,.string p.2] 43 (0,0))):=⟨hg.trans (by rw [Yg5];simp),hgv⟩
 have HOA:=Yh hownA
 clear hown hg hl1 hl2 hcap hmax hA hB hgv hownA
 have e1:(a:Int)≤(a:Int)+1+(r:Int):=by omega
 have e2:((a:Int) == (a:Int)+1+(r:Int))=false:=by simp;omega
 have e3:(a:Int)+1+(r:Int)<(a:Int)+1+(r:Int)+1:=by omega
 have e4:a≤a+1+r:=by omega
 have e9:(a:Int)+1+(r:Int)≤100000:=by omega
 have e5:(a:Int)+1+(r:Int)+1 - (a:Int)=((r+2:Nat):Int):=by omega
 have hszM:(prog.info? 43).map (·.size)=some 2:=by rw [hi0];simp [hz1]
 have hap:=fun ty=>Ywv (r+2) ty HOA.out (by omega) (by omega)
 obtain ⟨c,rest,hr0,hc1,hc2,hc3⟩:=hap 34
 have HCC:Hid ((a+(r+2))*2+rest.length=c*2∧a+(r+2)≤c∧c≤maxLen):=⟨hc1,hc2,hc3⟩
 have q1:¬(c=a):=by omega
 have q2:¬(c=a+1):=by omega
 obtain ⟨W0,hW0⟩:∃ W0,W0=w.drew.alloc (.cells (Yad A ++ Yd9 (r+2) ++ rest).toArray 43 (0,0)):=⟨_,rfl⟩
 rw [←hW0] at hr0
 have HA:=Yh hr0
 have hB0:Below w.heap.size w W0:=by rw [hW0];exact (Below.refl _ _).drew.alloc (Nat.le_refl _) _
 have hz0':W0.heap.size=w.heap.size+1:=by rw [hW0];simp
 have hN0:W0.heap[w.heap.size]? = some (.cells (Yad A ++ Yd9 (r+2) ++ rest).toArray 43 (0,0)):=by rw [hW0];exact heap_alloc_new w.drew _
 have hep:Yd9 (r+2)=[Value.string ByteArray.empty,.string ByteArray.empty] ++ Yd9 (r+1):=by simp [Yd9,Yad,List.replicate_succ]
 have hgv0:=(hB0.block gv (Yaj HG.out.2)).trans HG.out.2
 have hg0:=(hB0.block g (Yaj HG.out.1)).trans HG.out.1
 have hgw:=Yaj HG.out.1
 have hcp1:∀ ty dc,Sem.run prog (Builtin.copy_ #[34,34] ty #[.slice (some ⟨w.heap.size,a*2,none⟩) (r+2) dc,.slice (some ⟨gv,0,none⟩) 1 1]) W0=.ok (goInt (1:Nat)) (W0.setCells w.heap.size (a*2) [.string p.1,.string p.2]):=fun ty dc=>by
  refine Yj4 W0 _ _ ty 43 2 w.heap.size (a*2) (r+2) dc ⟨gv,0,none⟩ 1 1 1 [.string p.1,.string p.2] underlying34 hszM (by simp only [Nat.min_def];split <;> omega) rfl (fun j v hj=>?_) (fun j hj=>?_) (fun j hj=>Yah _ hN0) (by intro v hv;simp at hv;rcases hv with rfl | rfl <;> rfl)
  ·rw [Ydg];exact Yaa hgv0 (by simpa using hj)
  ·rw [Yaa hN0 (Array.getElem?_eq_getElem (show a*2+j<_ by have h2:=HL.out.1;have h3:=Yix (r+2);simp at hj ⊢;omega))]
   rfl
 obtain ⟨W1,hW1⟩:∃ W1,W1=W0.setCells w.heap.size (a*2) [.string p.1,.string p.2]:=⟨_,rfl⟩
 have hN1:W1.heap[w.heap.size]? = some (.cells (Yad A ++ [Value.string p.1,.string p.2] ++ Yd9 (r+1) ++ rest).toArray 43 (0,0)):=by
  have h4:=Yh3 (w:=W0) (g:=w.heap.size) (t:=43) (Yad A) [Value.string ByteArray.empty,.string ByteArray.empty] (Yd9 (r+1) ++ rest) [Value.string p.1,.string p.2] (hN0.trans (by rw [hep];simp)) rfl;rw [HL.out.1] at h4;rw [hW1,h4];simp
 obtain ⟨f1,f2⟩:=Yiu [Value.string p.1,.string p.2] W0 w.heap.size (a*2)
 rw [←hW1] at hcp1 f1 f2
 have hg1:=(f1 g (by omega)).trans hg0
 have hcp2:∀ (W:World),W.heap=W1.heap→∀ ty dl dc sl sc,dl=r+1→sl=r+1→Sem.run prog (Builtin.copy_ #[34,34] ty #[.slice (some ⟨w.heap.size,(a+1)*2,none⟩) dl dc,.slice (some ⟨g,a*2,none⟩) sl sc]) W=.ok (goInt (r+1:Nat)) (W.setCells w.heap.size ((a+1)*2) (Yad B)):=fun W hW ty dl dc sl sc hdl hsl=>by
  have hNW:=(congrArg (fun h=>h[w.heap.size]?) hW).trans hN1;have hgW:=(congrArg (fun h=>h[g]?) hW).trans hg1;refine Yj4 W _ _ ty 43 2 w.heap.size ((a+1)*2) dl dc ⟨g,a*2,none⟩ sl sc (r+1) (Yad B) underlying34 hszM (by simp only [Nat.min_def];split <;> omega) HL.out.2 (fun j v hj=>?_) (fun j hj=>?_) (fun j hj=>Yah _ hNW) (Yjx _)
  ·rw [Addr.add_mid]
   refine Yaa hgW ?_;rw [List.getElem?_toArray,List.getElem?_append_right (by rw [HL.out.1];omega),HL.out.1,show a*2+j - a*2=j by omega];exact hj
  ·rw [Yaa hNW (Array.getElem?_eq_getElem (show (a+1)*2+j<_ by have h1:=HL.out.1;have h2:=HL.out.2;have h3:=Yix (r+1);simp;omega))]
   rfl
 have HCP2:=Yh hcp2
 have HFIN:Hid (∀ W:World,W.heap=W1.heap→Below 0 W1 W→Ygo w (W.setCells w.heap.size ((a+1)*2) (Yad B)) (.slice (some ⟨g,0,none⟩) (a+1+r) (a+1+r)) (.slice (some ⟨w.heap.size,0,none⟩) (a+(r+2)) c) (a+1+r+1) (A ++ p :: B)):=by
  intro W hW hBW;have hNW:=(congrArg (fun h=>h[w.heap.size]?) hW).trans hN1;obtain ⟨k1,k2⟩:=Yiu (Yad B) W w.heap.size ((a+1)*2);refine ⟨?_,fun k hk hne=>?_,.inr ⟨w.heap.size,Nat.le_refl _,rfl⟩,((hB0.mono (Nat.zero_le _)).trans (f2.trans (hBW.trans k2)))⟩
  ·have h4:=Yh3 (w:=W) (g:=w.heap.size) (t:=43) (Yad A ++ [Value.string p.1,.string p.2]) (Yd9 (r+1)) rest (Yad B) hNW (by rw [HL.out.2,Yix])
   have hl:(Yad A ++ [Value.string p.1,.string p.2]).length=(a+1)*2:=by rw [List.length_append,HL.out.1];simp;omega
   rw [hl] at h4;rw [show a+1+r+1=a+(r+2) by omega];refine Yjz (rest:=rest) (Nat.zero_le _) (h4.trans (by simp [Yad])) ?_ ?_ HCC.out.2.1 HCC.out.2.2
   ·have h1:=HL.out.1;have h2:=HL.out.2
    rw [Yds] at h1 h2 ⊢;simp at h1 h2 ⊢;omega
   ·have h1:=HL.out.1;have h2:=HL.out.2;have h3:=HCC.out.1
    rw [Yds] at h1 h2 ⊢;simp at h1 h2 ⊢;omega
  ·rw [k1 k (by omega),hW,f1 k (by omega)]
   exact hB0.block k hk
 clear hr0 hc1 hc2 hc3 hW0 hW1 hN0 hN1 hgv0 hg0 hg1 f1 f2 hB0 hep hcp2 hap
 go_enter func160,ntmps160
 go_wp2_with (first | (at_builtin;go_must (refine Lib.wpList_append_run _ rfl _ _ 34 3 rfl _ _ rfl rfl _ _ HA.out ?_)))
 have q3:IntKind.i64.wrap ((a:Int)+1)=(a:Int)+1:=by rw [IntKind.wrap_i64];omega
 have q4:((a:Int)+1).toNat=a+1:=by omega
 have q5:(0:Int)≤(a:Int)+1:=by omega
 have q6:(a:Int)+1≤(a:Int)+((r:Int)+2):=by omega
 have q7:(a:Int)≤(a:Int)+1+(r:Int):=by omega
 have q8:¬(a+1+r=a):=by omega
 have q9:a+(r+2) - (a+1)=r+1:=by omega
 have q10:a+1+r - a=r+1:=by omega
 have hq:∀ ty dc sc,Sem.run prog (Builtin.copy_ #[34,34] ty #[.slice (some ⟨w.heap.size,(a+1)*2,none⟩) (r+1) dc,.slice (some ⟨g,a*2,none⟩) (r+1) sc]) W1.drew=.ok (goInt (r+1:Nat)) (W1.drew.setCells w.heap.size ((a+1)*2) (Yad B)):=fun ty dc sc=>HCP2.out W1.drew rfl ty _ dc _ sc rfl rfl
 go_region
 go_wp2
 go_ret
 exact ⟨_,rfl,HFIN.out W1.drew rfl (Below.refl _ _).drew⟩
theorem Ywx (v:Value) (a r:Nat) (A B:Yaf) (p:ByteArray×ByteArray) (gv:Nat) (w:World) (hA:A.length=a) (hB:B.length=r) (hown:w.ownsRow 0 43 2 v (a+r) (Yad (A ++ B))) (hgv:w.heap[gv]? = some (.cells #[.string p.1,.string p.2] 43 (0,0)))
 (hne:v.ownBlock≠some gv) (hlen:a+r≤100000):
 Calls prog 160 #[v,.int .i64 a,.slice (some ⟨gv,0,none⟩) 1 1] w fun e w'=>∃ v',e=.returned v'∧Ygo w w' v v' (a+r+1) (A ++ p :: B):=by
 match r,hB with
 | 0,hB=>
  obtain rfl:B=[]:=List.eq_nil_of_length_eq_zero hB;simp only [List.append_nil,Nat.add_zero] at hown ⊢;exact Yws v a A p gv w hA hown hgv (by omega)
 | r+1,hB=>
  rw [show a+(r+1)=a+1+r by omega] at hown hlen ⊢;obtain ⟨g,cap,rfl⟩:=Ybn hown (by omega);by_cases hroom:a+1+r<cap
  ·exact Ywt g cap a r A B p gv w hA hB hown hgv (fun e=>hne (by rw [e];rfl)) hlen hroom
  ·obtain rfl:cap=a+1+r:=by
    obtain ⟨_,_,_,_,h,_⟩:=Yjy hown;omega
   exact Yww g a r A B p gv w hA hB hown hgv hlen
theorem Yiy (key val:ByteArray):∀ (A:Yaf) (out:Yaf) (d:Bool),(∀ p∈A,blt p.1 key)→A.foldl (Yby key val) (out,d)=(out ++ A,d)
 | [],out,d,_=>by simp
 | p :: r,out,d,h=>by
  have hp:=h p (by simp);have h1:p.1≠key:=Yej hp;have h2:¬key.toList<p.1.toList:=fun hc=>Yir _ (Yh0 hp hc)
  have hs:Yby key val (out,d) p=(out ++ [p],d):=by simp [Yby,h1,h2,Ne.symm h1]
  rw [List.foldl_cons,hs,Yiy key val r _ d (fun q hq=>h q (by simp [hq]))];simp
theorem Yj5 (key val:ByteArray):∀ (B:Yaf) (out:Yaf),(∀ p∈B,blt key p.1)→B.foldl (Yby key val) (out,true)=(out ++ B,true)
 | [],out,_=>by simp
 | p :: r,out,h=>by
  have h1:p.1≠key:=fun e=>Yej (h p (by simp)) e.symm
  have hs:Yby key val (out,true) p=(out ++ [p],true):=by simp [Yby,h1]
  rw [List.foldl_cons,hs,Yj5 key val r _ (fun q hq=>h q (by simp [hq]))];simp
theorem Ynh (A B:Yaf) (key v0:ByteArray) (is:Bool) (val:ByteArray) (hA:∀ p∈A,blt p.1 key) (hB:∀ p∈B,blt key p.1):Yaw (A ++ (key,v0) :: B) key is val=if is then A ++ (key,val) :: B else A ++ B:=by
 cases is with
 | true=>
  have hs:Yby key val (A,false) (key,v0)=(A ++ [(key,val)],true):=by simp [Yby]
  simp [Yaw,Yhz,Yiy key val A [] false hA,hs,Yj5 key val B _ hB]
 | false=>
  have hs:Yby key val (A,true) (key,v0)=(A,true):=by simp [Yby]
  simp [Yaw,Yhz,Yiy key val A [] true hA,hs,Yj5 key val B _ hB]
theorem Yni (A B:Yaf) (key:ByteArray) (is:Bool) (val:ByteArray) (hA:∀ p∈A,blt p.1 key) (hB:∀ p∈B,blt key p.1):Yaw (A ++ B) key is val=if is then A ++ (key,val) :: B else A ++ B:=by
 cases is with
 | true=>
  match B,hB with
  | [],_=>simp [Yaw,Yhz,Yiy key val A [] false hA]
  | p :: B,hB=>
   have h0:=hB p (by simp);have h1:p.1≠key:=fun e=>Yej h0 e.symm
   have hs:Yby key val (A,false) p=(A ++ [(key,val)] ++ [p],true):=by simp [Yby,h1,show key.toList<p.1.toList from h0]
   simp [Yaw,Yhz,Yiy key val A [] false hA,hs,Yj5 key val B _ (fun q hq=>hB q (by simp [hq]))]
 | false=>
  simp [Yaw,Yhz,Yiy key val A [] true hA,Yj5 key val B _ hB]
theorem Yqr {ps:Yaf} {key:ByteArray} {i:Nat} (hp:Yh1 ps key i) (hr:Ybi ps):
 ∃ A B:Yaf,A.length=i∧(∀ p∈A,blt p.1 key)∧(∀ p∈B,blt key p.1)∧((∃ v0,ps=A ++ (key,v0) :: B∧Ydo ps key i=true)∨(ps=A ++ B∧Ydo ps key i=false)):=by
 have hlow:∀ p∈ps.take i,blt p.1 key:=by
  intro p hm;obtain ⟨m,hm1,rfl⟩:=List.getElem_of_mem hm;have h1:m<i:=by simp at hm1;omega
  have h2:m<ps.length:=by simp at hm1;omega
  simpa using hp.2.1 m h2 h1
 have hal:(ps.take i).length=i:=by rw [List.length_take];have:=hp.1;omega
 have hhi:∀ m (h:m<ps.length),i≤m→ps[m].1≠key→blt key ps[m].1:=fun m h hm hk=>Classical.byContradiction fun hc=>hk (Yk5 (hp.2.2 m h hm) hc)
 by_cases hil:i<ps.length
 ·by_cases hk:ps[i].1=key
  ·refine ⟨ps.take i,ps.drop (i+1),hal,hlow,?_,.inl ⟨ps[i].2,?_,by simp [Ydo,hil,hk]⟩⟩
   ·intro p hm
    obtain ⟨m,hm1,rfl⟩:=List.getElem_of_mem hm;have h2:i+1+m<ps.length:=by simp at hm1;omega
    have:=hr i (i+1+m) hil h2 (by omega);rw [hk] at this;simpa using this
   ·have h1:ps=ps.take i ++ ps.drop i:=(List.take_append_drop i ps).symm
    rw [List.drop_eq_getElem_cons hil] at h1;have h2:ps[i]=(key,ps[i].2):=by rw [←hk]
    rw [h2] at h1;exact h1
  ·refine ⟨ps.take i,ps.drop i,hal,hlow,?_,.inr ⟨(List.take_append_drop i ps).symm,by simp [Ydo,hil,hk]⟩⟩
   intro p hm;obtain ⟨m,hm1,rfl⟩:=List.getElem_of_mem hm;have h2:i+m<ps.length:=by simp at hm1;omega
   have h3:=hhi i hil (Nat.le_refl _) hk;match m with
   | 0=>simpa using h3
   | m+1=>simpa using Yh0 h3 (hr i (i+(m+1)) hil h2 (by omega))
 ·refine ⟨ps,[],by have:=hp.1;omega,?_,by simp,.inr ⟨by simp,by simp [Ydo,hil]⟩⟩
  have:ps.take i=ps:=List.take_of_length_le (by omega);rw [this] at hlow;exact hlow
def Yle (w w':World) (pb:Nat) (turn:Int) (v:Value) (ps:Yaf):Prop:=∃ v',Yh2 w' pb turn v' ps∧v'.ownBlock≠some pb∧(∀ k,k<w.heap.size→k≠pb→v.ownBlock≠some k→w'.heap[k]? = w.heap[k]?)∧(v'.ownBlock=v.ownBlock∨∃ k,w.heap.size≤k∧v'.ownBlock=some k)∧Below 0 w w'
theorem Yda {w':World} {base:Nat} {e:TypeId} {size n:Nat} (h:w.ownsRow base e size v n xs) (hk:∀ g,v.ownBlock=some g→w'.heap[g]? = w.heap[g]?):w'.ownsRow base e size v n xs:=by
 refine ⟨h.1,?_⟩;rcases h.2 with h1 | ⟨g,cap,cur,h1,h2,h3,h4⟩
 ·exact .inl h1
 ·refine .inr ⟨g,cap,cur,h1,h2,?_,h4⟩
  rw [hk g (by rw [h1];rfl)];exact h3
theorem Ywy (v:Value) (i:Nat) (ps A B:Yaf) (p:ByteArray×ByteArray) (w:World) (hps:ps=A ++ p :: B) (hA:A.length=i) (hown:w.ownsRow 0 43 2 v ps.length (Yad ps)) (hlen:ps.length≤100000):
 Calls prog 159 #[v,.int .i64 i,.int .i64 ((i:Int)+1)] w fun e w'=>∃ ad c n,Hid (n=(A ++ B).length)∧e=.returned (.slice ad n c)∧Ygo w w' v (.slice ad n c) (A ++ B).length (A ++ B):=by
 have hn:ps.length=i+1+B.length:=by rw [hps,List.length_append,hA,List.length_cons];omega
 obtain ⟨g,cap,rfl⟩:=Ybn hown (by omega)
 rw [hn] at hown hlen ⊢
 rw [hps] at hown
 refine (Yvw g cap i B.length A B p w hA rfl hown hlen).mono ?_
 rintro e w' ⟨rfl,h1,h2,h3⟩
 have hl:(A ++ B).length=i+B.length:=by rw [List.length_append,hA]
 refine ⟨_,_,_,hl.symm,rfl,by rw [hl];exact h1,fun k hk hne=>h2 k hk (fun e=>hne (by rw [e];rfl)),.inl rfl,h3⟩
theorem Ywz (v:Value) (i:Nat) (ps A B:Yaf) (p:ByteArray×ByteArray) (gv:Nat) (w:World) (hps:ps=A ++ B) (hA:A.length=i) (hown:w.ownsRow 0 43 2 v ps.length (Yad ps)) (hgv:w.heap[gv]? = some (.cells #[.string p.1,.string p.2] 43 (0,0)))
 (hne:v.ownBlock≠some gv) (hlen:ps.length≤100000):
 Calls prog 160 #[v,.int .i64 i,.slice (some ⟨gv,0,none⟩) 1 1] w fun e w'=>∃ ad c n,Hid (n=(A ++ p :: B).length)∧e=.returned (.slice ad n c)∧Ygo w w' v (.slice ad n c) (A ++ p :: B).length (A ++ p :: B):=by
 have hn:ps.length=i+B.length:=by rw [hps,List.length_append,hA]
 rw [hn] at hown hlen
 rw [hps] at hown
 refine (Ywx v i B.length A B p gv w hA rfl hown hgv hne hlen).mono ?_
 rintro e w' ⟨v',rfl,h⟩
 have hl:(A ++ p :: B).length=i+B.length+1:=by rw [List.length_append,hA,List.length_cons];omega
 obtain ⟨ad,c,rfl⟩:=Yjt h.1
 refine ⟨ad,c,_,hl.symm,rfl,?_⟩
 rw [hl]
 exact h
theorem Yqs {w2 w3 w4:World} {pb:Nat} {turn:Int} {v':Value} {l:Yaf} (hB2:Below w.heap.size w w2) (hpw:pb<w.heap.size) (hpb2:w2.heap[pb]? = some (.cells #[.int .i64 turn,v] 180 (0,0))) (hne:v.ownBlock≠some pb)
 (hB3:Below w2.heap.size w2 w3) (hi:Ygo w3 w4 v v' l.length l):Yle w (w4.setCell ⟨pb,1,none⟩ v') pb turn v l:=by
 obtain ⟨h1,h2,h3,h4⟩:=hi
 have s2:=hB2.size
 have s3:=hB3.size
 have hpb3:=(hB3.block pb (by omega)).trans hpb2
 have hpb4:=(h2 pb (by omega) hne).trans hpb3
 have hne':v'.ownBlock≠some pb:=by
  rcases h3 with h | ⟨k,hk,h⟩
  ·rw [h];exact hne
  ·rw [h];simp;omega
 refine ⟨v',⟨?_,?_⟩,hne',fun k hk hkp hkv=>?_,?_,?_⟩
 ·exact (Yak w4 pb 1 v' _ _ hpb4).trans rfl
 ·refine Yda h1 (fun g hg=>?_)
  exact Below.heap_setCell _ _ _ _ (fun e=>hne' (by rw [hg,e]))
 ·rw [Below.heap_setCell _ _ _ _ hkp,h2 k (by omega) hkv,hB3.block k (by omega)]
  exact hB2.block k hk
 ·rcases h3 with h | ⟨k,hk,h⟩
  ·exact .inl h
  ·exact .inr ⟨k,by omega,h⟩
 ·exact ((hB2.mono (Nat.zero_le _)).trans ((hB3.mono (Nat.zero_le _)).trans h4)).setCell (p:=⟨pb,1,none⟩) (by simp) _
theorem Yw0 (pb:Nat) (turn:Int) (v:Value) (ps:Yaf) (key:ByteArray) (is:Bool) (val:ByteArray) (w:World) (hp:Yh2 w pb turn v ps) (hne:v.ownBlock≠some pb) (hlen:ps.length≤10000) (hr:Ybi ps):
 Calls prog 113 #[.pointer (some ⟨pb,0,none⟩),.string key,.agg #[.bool is,.string val]] w fun e w'=>e=.returned (.tuple #[])∧Yle w w' pb turn v (Yaw ps key is val):=by
 obtain ⟨hpb,hown⟩:=hp
 have hpw:pb<w.heap.size:=Yaj hpb
 have hlt0:∀ g,v.ownBlock=some g→g<w.heap.size:=fun g hg=>(hown.lt g hg).2
 have cp:w.cell? ⟨pb,1,none⟩=some v:=Yaa (j:=1) hpb rfl
 obtain ⟨i,hpos⟩:=Yk7 ps key hr
 obtain ⟨A,B,hAl,hA,hB,hcase⟩:=Yqr hpos hr
 have HX:Hid (∀ w1,(w.alloc (.cells #[.bool is,.string val] 38))=w1→w1.heap[pb]? = some (.cells #[.int .i64 turn,v] 180 (0,0))∧w1.ownsRow 0 43 2 v ps.length (Yad ps)∧w1.heap[w.heap.size]? = some (.cells #[.bool is,.string val] 38 (0,0))∧Below w.heap.size w w1∧w1.heap.size=w.heap.size+1):=by
  rintro w1 rfl;exact ⟨(Below.heap_alloc w _ pb hpw).trans hpb,hown.alloc _,heap_alloc_new w _,(Below.refl _ _).alloc (Nat.le_refl _) _,by simp⟩
 have HP:=Yh hpos
 have HAB:Hid ((∀ p∈A,blt p.1 key)∧(∀ p∈B,blt key p.1)):=⟨hA,hB⟩
 clear hpb hown hpos hA hB
 have hil:i≤ps.length:=HP.out.1
 have hw1:wrap64 ((i:Int)+1)=(i:Int)+1:=by simp only [wrap64];omega
 rcases hcase with ⟨v0,hps,hfo⟩ | ⟨hps,hfo⟩
 ·have HPS:=Yh hps
  have hlt:i<ps.length:=by rw [hps,List.length_append,hAl];simp
  have hlt':(i:Int)<(ps.length:Int):=by omega
  clear hps
  cases is with
  | true=>
   go_enter func113,ntmps113;go_wp2_with (first | (go_at_call 157;go_must (
    obtain ⟨hpb1,hown1,hnew,hB,hz⟩:=HX.out _ rfl;refine (Yis 0 v ps key _ hown1 (by omega) hr).mono ?_;rintro e w2 ⟨i2,hpos,rfl,hb2⟩;obtain rfl:=Yit HP.out hpos;have hpb2:=(hb2.block pb (by omega)).trans hpb1;have hnew2:=(hb2.block w.heap.size (by omega)).trans hnew;have cp2:w2.cell? ⟨pb,1,none⟩=some v:=Yaa (j:=1) hpb2 rfl;have n0:w2.cell? ⟨w.heap.size,0,none⟩=some (.bool true):=Yaa (j:=0) hnew2 rfl;have n1:w2.cell? ⟨w.heap.size,1,none⟩=some (.string val):=Yaa (j:=1) hnew2 rfl;have fp2:=Yah 1 hpb2;have HO2:Hid (w2.ownsRow 0 43 2 v ps.length (Yad ps)):=Ybe hown1 hb2 (fun g hg=>by have:=hlt0 g hg;omega);have HB2:Hid (Below w.heap.size w w2):=hB.trans (hb2.mono hB.size);have HPB2:=Yh hpb2;have hz2:w.heap.size+1≤w2.heap.size:=by have:=hb2.size;omega
    clear hpb1 hown1 hnew hB hz hpb2 hnew2 hb2 hpos cp HX)))
   have hnb:=HO2.out;obtain ⟨g,cap,rfl⟩:=Ybn hnb (by omega);clear hnb;have hgN:g<w.heap.size:=hlt0 g rfl;obtain ⟨rest,hg2,hl1,hl2,hcap,hmax⟩:=Yjy HO2.out;have hkc:Yad ps=Yad A ++ [Value.string key] ++ [Value.string v0] ++ Yad B:=by rw [HPS.out];simp [Yad]
   have hXl:(Yad A ++ [Value.string key]).length=i*2+1:=by rw [List.length_append,Yds,hAl];simp
   have HG2:Hid (w2.heap[g]? = some (.cells ((Yad A ++ [Value.string key]) ++ [Value.string v0] ++ (Yad B ++ rest)).toArray 43 (0,0))):=by
    show _=_;rw [hg2,hkc];simp
   have c0:w2.cell? ⟨g,i*2+1,none⟩=some (.string v0):=Yaa HG2.out (by rw [List.getElem?_toArray,List.append_assoc,List.getElem?_append_right (by omega),hXl];simp);have fz0:=Yah (i*2+1) HG2.out;have HFIN:Hid (Yle w (w2.drew.setCell ⟨g,i*2+1,none⟩ (.string val)) pb turn (.slice (some ⟨g,0,none⟩) ps.length cap) (Yaw ps key true val)):=by
    have hwl:Yaw ps key true val=A ++ (key,val) :: B:=by rw [HPS.out,Ynh A B key v0 true val HAB.out.1 HAB.out.2];rfl
    have h4:=Yh3 (w:=w2.drew) (g:=g) (t:=43) (Yad A ++ [Value.string key]) [Value.string v0] (Yad B ++ rest) [Value.string val] HG2.out rfl;rw [hXl] at h4;have hll:(A ++ (key,val) :: B).length=ps.length:=by rw [HPS.out];simp
    have hcl:(Yad (A ++ (key,val) :: B)).length=ps.length*2:=by rw [Yds,hll]
    have hgp:pb≠g:=fun e=>hne (by rw [e];rfl)
    rw [hwl];refine ⟨.slice (some ⟨g,0,none⟩) ps.length cap,⟨(Below.heap_setCell _ _ _ _ hgp).trans HPB2.out,?_⟩,hne,fun k hk hkp hkv=>?_,.inl rfl,?_⟩
    ·rw [hll]
     exact Yjz (rest:=rest) (Nat.zero_le _) (h4.trans (by simp [Yad])) hcl (by rw [hcl,←hl1];exact hl2) hcap hmax
    ·rw [Below.heap_setCell _ _ _ _ (fun e=>hkv (by rw [e];rfl))]
     exact HB2.out.block k hk
    ·exact ((HB2.out.mono (Nat.zero_le _)).drew).setCell (p:=⟨g,i*2+1,none⟩) (by simp) _
   clear hg2 hl1 hl2 hcap hmax hkc hXl;go_region
   go_wp2;go_end0;exact ⟨rfl,HFIN.out⟩
  | false=>
   go_enter func113,ntmps113;go_wp2_with (first | (go_at_call 157;go_must (
    obtain ⟨hpb1,hown1,hnew,hB,hz⟩:=HX.out _ rfl;refine (Yis 0 v ps key _ hown1 (by omega) hr).mono ?_;rintro e w2 ⟨i2,hpos,rfl,hb2⟩;obtain rfl:=Yit HP.out hpos;have hpb2:=(hb2.block pb (by omega)).trans hpb1;have hnew2:=(hb2.block w.heap.size (by omega)).trans hnew;have cp2:w2.cell? ⟨pb,1,none⟩=some v:=Yaa (j:=1) hpb2 rfl;have n0:w2.cell? ⟨w.heap.size,0,none⟩=some (.bool false):=Yaa (j:=0) hnew2 rfl;have n1:w2.cell? ⟨w.heap.size,1,none⟩=some (.string val):=Yaa (j:=1) hnew2 rfl;have fp2:=Yah 1 hpb2;have HO2:Hid (w2.ownsRow 0 43 2 v ps.length (Yad ps)):=Ybe hown1 hb2 (fun g hg=>by have:=hlt0 g hg;omega);have HB2:Hid (Below w.heap.size w w2):=hB.trans (hb2.mono hB.size);have HPB2:=Yh hpb2;have hz2:w.heap.size+1≤w2.heap.size:=by have:=hb2.size;omega
    clear hpb1 hown1 hnew hB hz hpb2 hnew2 hb2 hpos cp HX)))
   refine (Ywy v i ps A B (key,v0) w2 HPS.out hAl HO2.out (by omega)).mono ?_;rintro e w4 ⟨ad4,cap4,n4,HN4,rfl,hins⟩;have hpt:=Yqs HB2.out hpw HPB2.out hne (Below.refl _ _) hins;have HPT:=Yh hpt;have hpb4:=(hins.2.1 pb (by omega) hne).trans HPB2.out;have c4:w4.cell? ⟨pb,1,none⟩=some v:=Yaa (j:=1) hpb4 rfl;have f4:=Yah 1 hpb4;clear hpt hins hpb4;go_wp2;go_end0;refine ⟨rfl,?_⟩;rw [HPS.out,Ynh A B key v0 false val HAB.out.1 HAB.out.2];exact HPT.out
 ·have HPS:=Yh hps
  clear hps
  cases is with
  | true=>
   go_enter func113,ntmps113;go_wp2_with (first | (go_at_call 157;go_must (
    obtain ⟨hpb1,hown1,hnew,hB,hz⟩:=HX.out _ rfl;refine (Yis 0 v ps key _ hown1 (by omega) hr).mono ?_;rintro e w2 ⟨i2,hpos,rfl,hb2⟩;obtain rfl:=Yit HP.out hpos;have hpb2:=(hb2.block pb (by omega)).trans hpb1;have hnew2:=(hb2.block w.heap.size (by omega)).trans hnew;have cp2:w2.cell? ⟨pb,1,none⟩=some v:=Yaa (j:=1) hpb2 rfl;have n0:w2.cell? ⟨w.heap.size,0,none⟩=some (.bool true):=Yaa (j:=0) hnew2 rfl;have n1:w2.cell? ⟨w.heap.size,1,none⟩=some (.string val):=Yaa (j:=1) hnew2 rfl;have fp2:=Yah 1 hpb2;have HO2:Hid (w2.ownsRow 0 43 2 v ps.length (Yad ps)):=Ybe hown1 hb2 (fun g hg=>by have:=hlt0 g hg;omega);have HB2:Hid (Below w.heap.size w w2):=hB.trans (hb2.mono hB.size);have HPB2:=Yh hpb2;have hz2:w.heap.size+1≤w2.heap.size:=by have:=hb2.size;omega
    clear hpb1 hown1 hnew hB hz hpb2 hnew2 hb2 hpos cp HX)))
   have hpw2:pb<w2.heap.size:=by omega
   have hnw2:w.heap.size<w2.heap.size:=by omega
   have hgv:∀ O,(w2.drew.alloc O).heap[w2.heap.size]? = some O:=fun O=>heap_alloc_new w2.drew O
   have HGV:=Yh hgv;have HO3:Hid (∀ O,(w2.drew.alloc O).ownsRow 0 43 2 v ps.length (Yad ps)):=fun O=>World.ownsRow.alloc (w:=w2.drew) HO2.out O
   have HNG:Hid (v.ownBlock≠some w2.heap.size):=fun e=>by have:=hlt0 _ e;omega
   clear hgv;go_region_with (first
    | (go_at_call 160;go_must (
     refine (Ywz v i ps A B (key,val) w2.heap.size _ HPS.out hAl (HO3.out _) (HGV.out _) HNG.out (by omega)).mono ?_;rintro e w4 ⟨ad4,cap4,n4,HN4,rfl,hins⟩;have hpt:=Yqs HB2.out hpw HPB2.out hne ((Below.refl _ _).drew.alloc (Nat.le_refl _) _) hins;have HPT:=Yh hpt;have hpb4:=(hins.2.1 pb (by simp;omega) hne).trans ((Below.heap_alloc w2.drew _ pb (by simp;omega)).trans HPB2.out);have c4:w4.cell? ⟨pb,1,none⟩=some v:=Yaa (j:=1) hpb4 rfl;have f4:=Yah 1 hpb4;clear hpt hins hpb4)))
   all_goals
    go_wp2;go_end0;refine ⟨rfl,?_⟩;rw [HPS.out,Yni A B key true val HAB.out.1 HAB.out.2];exact HPT.out
  | false=>
   go_enter func113,ntmps113;go_wp2_with (first | (go_at_call 157;go_must (
    obtain ⟨hpb1,hown1,hnew,hB,hz⟩:=HX.out _ rfl;refine (Yis 0 v ps key _ hown1 (by omega) hr).mono ?_;rintro e w2 ⟨i2,hpos,rfl,hb2⟩;obtain rfl:=Yit HP.out hpos;have hpb2:=(hb2.block pb (by omega)).trans hpb1;have hnew2:=(hb2.block w.heap.size (by omega)).trans hnew;have cp2:w2.cell? ⟨pb,1,none⟩=some v:=Yaa (j:=1) hpb2 rfl;have n0:w2.cell? ⟨w.heap.size,0,none⟩=some (.bool false):=Yaa (j:=0) hnew2 rfl;have n1:w2.cell? ⟨w.heap.size,1,none⟩=some (.string val):=Yaa (j:=1) hnew2 rfl;have fp2:=Yah 1 hpb2;have HO2:Hid (w2.ownsRow 0 43 2 v ps.length (Yad ps)):=Ybe hown1 hb2 (fun g hg=>by have:=hlt0 g hg;omega);have HB2:Hid (Below w.heap.size w w2):=hB.trans (hb2.mono hB.size);have HPB2:=Yh hpb2;have hz2:w.heap.size+1≤w2.heap.size:=by have:=hb2.size;omega
    clear hpb1 hown1 hnew hB hz hpb2 hnew2 hb2 hpos cp HX)))
   go_end0;refine ⟨rfl,v,⟨HPB2.out,?_⟩,hne,fun k hk _ _=>HB2.out.block k hk,.inl rfl,HB2.out.mono (Nat.zero_le _)⟩;rw [HPS.out,Yni A B key false val HAB.out.1 HAB.out.2];have:=HO2.out;rw [HPS.out] at this;exact this
theorem Yqt:(prog.info? 5).map (fun i=>(i.zero,i.size,i.bytes))=some (some (.int .u8 0),1,1):=by kernel_rfl
theorem Yw1 (s:ByteArray) (w:World) (hlim:s.size≤281474976710656):
 Calls prog 70 #[.string s] w fun e w'=>e=.returned (.string s)∧Below w.heap.size w w':=by
 by_cases h0:s.size=0
 ·have hs:s=⟨#[]⟩:=ByteArray.ext (Array.eq_empty_of_size_eq_zero h0)
  subst hs;go_enter func70,ntmps70;go_wp2;go_ret;exact ⟨rfl,Below.refl _ _⟩
 ·obtain ⟨i0,hi,hz0,hz1,hz2⟩:=info_parts Yqt
  have hinfo:(prog.info? 5).map (·.size)=some 1:=by rw [hi];simp [hz1]
  have hco:prog.cellsOf 5=1:=by simp [Program.cellsOf,hi,hz1]
  obtain ⟨M,hM⟩:∃ M,M=madeCells (Value.int .u8 0).cells (((s.size:Nat):Int).toNat*i0.size):=⟨_,rfl⟩;have hMs:M.size=s.size:=by rw [hM,size_madeCells,hz1];simp
  have hmk:∀ W:World,(Instr.makeSlice 46 (.int .i64 (s.size:Int)) (.int .i64 (s.size:Int))).run prog W=.ok (.slice (some ⟨W.heap.size,0,none⟩) s.size s.size) (W.alloc (.cells M 5)):=fun W=>by
   have h:=run_make (P:=prog) W 46 5 i0 (.int .u8 0) underlying46 hi hz0 .i64 .i64 (s.size:Int) (s.size:Int) (by omega) (by omega) (by rw [hz2];omega) (by omega);rw [←hM] at h;simpa using h
  clear hM;have hcp:=Lib.run_copy_row_string (P:=prog) (w.alloc (.cells M 5)) 46 9 3 5 w.heap.size 0 s.size s.size s M 5 underlying46 hinfo (heap_alloc_new w _) (Nat.le_refl _) (by omega);obtain ⟨Y,hY⟩:∃ Y,Y=(M.toList.take 0 ++ Lib.byteCells s.data.toList ++ M.toList.drop (0+s.size)).toArray:=⟨_,rfl⟩;rw [←hY] at hcp;have hYl:Y.toList=Lib.byteCells s.data.toList:=by
   rw [hY,List.toList_toArray,List.take_zero,List.nil_append,List.drop_of_length_le (by rw [Array.length_toList];omega),List.append_nil]
  have hYs:Y.size=s.size:=by rw [←Array.length_toList,hYl,Lib.byteCells_length,←Lib.size_eq]
  have hgY:((w.alloc (.cells M 5)).setRow w.heap.size Y).heap[w.heap.size]? = some (.cells Y 5 (0,0)):=setRow_heap _ _ M _ 5 (0,0) (heap_alloc_new w _);have hne:s.data.toList≠[]:=fun e=>h0 (by rw [Lib.size_eq,e];rfl)
  have hUS:=Lib.run_unsafeString_row (P:=prog) ((w.alloc (.cells M 5)).setRow w.heap.size Y) 157 3 9 5 underlying157 hco w.heap.size Y.size (by unfold World.shape?;rw [hgY]) s.data.toList hne (by rw [←Lib.size_eq];omega) (by rw [←Lib.size_eq];omega)
   (fun j x hx=>Lib.cells_of_row hgY Y.size j _ (by rw [List.take_of_length_le (by rw [Array.length_toList];exact Nat.le_refl _),hYl];simp [Lib.byteCells,hx]))
  rw [←Lib.size_eq] at hUS;clear hY;go_enter func70,ntmps70;go_wp2;go_ret;have hb1:Below w.heap.size w (w.alloc (.cells M 5)):=(Below.refl _ w).alloc (Nat.le_refl _) _;have hb2:Below w.heap.size (w.alloc (.cells M 5)) ((w.alloc (.cells M 5)).setRow w.heap.size Y):=⟨rfl,rfl,rfl,by simp,fun k hk=>setRow_other _ _ _ _ (by omega)⟩;exact ⟨rfl,Lib.below_freeze (hb1.trans hb2) (p:=⟨w.heap.size,0,none⟩) (Nat.le_refl _) _⟩
theorem Yiz (s:ByteArray) (w:World) (hlim:s.size≤281474976710656):
 Calls prog 45 #[.string s] w fun e w'=>e=.returned (.string s)∧Below w.heap.size w w':=by
 have K:=Yw1 s w hlim
 go_enter func45,ntmps45
 go_wp2_with (first | (go_at_call 70;refine K.mono ?_;rintro e w' ⟨rfl,hb⟩))
 go_ret
 exact ⟨rfl,hb⟩
end Go.Proofs.YtihbngfbcnojcaaGreat
namespace Go.Proofs.YtihbngfbcnojcaaGreat
open Go.RowKit Go.Shelf Tryz
attribute [local go_sem] Oper.semAt_some
theorem Yqu {F:Fence} {n:Nat} {P:Program} {ops:Array Oper} {rest:List Oper} {op:Oper} {a:Act} {w:World} {Q:Exit→Act→World→Prop} (hgd:op.guard=none) (ty:TypeId) (x:Operand) (ho:op.op=.load ty x)
 (b o:Nat) (hx:a.eval x=.pointer (some ⟨b,o,none⟩)) (cs:List Value) (d:TypeDesc) (hc:w.rangeAt b o cs)
 (hu:P.underlying ty=some d) (hd:d.isRow=true) (hi:(P.info? ty).map (·.size)=some cs.length)
 (h:wpListIn F n P ops Q rest (a.put op.dst (.agg cs.toArray)) w):wpListIn F n P ops Q (op :: rest) a w:=by
 refine wpListIn_plain hgd fun K' hK'=>?_
 unfold Oper.wpIn
 refine ⟨by simp [Oper.about,ho],?_⟩
 rw [Oper.semAt_eq _ _ _ (by simp [ho])]
 unfold execOp
 simp only [ho,hx,Instr.loadAt,Instr.sureAddr,Sem.run_bind,Sem.run_pure,Result.andThen_ok,run_loadVar_mid w b o ty cs d hc hu hd hi]
 exact hK' _ _ h
theorem Yw2 {F:Fence} {n:Nat} {P:Program} {ops:Array Oper} {rest:List Oper} {op:Oper} {a:Act} {w:World} {Q:Exit→Act→World→Prop} (hgd:op.guard=none) (ty:TypeId) (x y:Operand) (ho:op.op=.store ty x y)
 (b o:Nat) (cells:Array Value) (hx:a.eval x=.pointer (some ⟨b,o,none⟩)) (hy:a.eval y=.agg cells)
 (ht:w.there b o cells.size) (hi:(P.info? ty).map (·.size)=some cells.size) (h1:cells.all (·.oneCell')=true)
 (h:wpListIn F n P ops Q rest (a.put op.dst undef) (w.setCells b o cells.toList)):wpListIn F n P ops Q (op :: rest) a w:=by
 refine wpListIn_plain hgd fun K' hK'=>?_
 unfold Oper.wpIn
 refine ⟨by simp [Oper.about,ho],?_⟩
 rw [Oper.semAt_eq _ _ _ (by simp [ho])]
 unfold execOp
 simp only [ho,hx,hy,Instr.storeAt,Instr.sureAddr,Sem.run_bind,Sem.run_pure,Result.andThen_ok,run_storeVar_mid w b o ty cells ht hi h1]
 exact hK' _ _ h
theorem Yw3 {F:Fence} {n:Nat} {P:Program} {ops:Array Oper} {rest:List Oper} {op:Oper} {a:Act} {w:World} {Q:Exit→Act→World→Prop} (hgd:op.guard=none) (ty:TypeId) (x y:Operand) (ho:op.op=.store ty x y)
 (Z cells:Array Value) (hx:a.eval x=.pointer (some ⟨w.heap.size,0,none⟩)) (hy:a.eval y=.agg cells)
 (hz:Z.size=cells.size) (hi:(P.info? ty).map (·.size)=some cells.size) (h1:cells.all (·.oneCell')=true)
 (h:wpListIn F n P ops Q rest (a.put op.dst undef) (w.alloc (.cells cells ty))):wpListIn F n P ops Q (op :: rest) a (w.alloc (.cells Z ty)):=by
 refine wpListIn_plain hgd fun K' hK'=>?_
 unfold Oper.wpIn
 refine ⟨by simp [Oper.about,ho],?_⟩
 rw [Oper.semAt_eq _ _ _ (by simp [ho])]
 unfold execOp
 simp only [ho,hx,hy,Sem.run_bind,Sem.run_pure,Result.andThen_ok,run_storeAt_new w ty Z cells hi hz h1]
 exact hK' _ _ h
abbrev Wr:={ x:Nat×(Nat×List Value) // x.2.2.length=64∧∀ u∈x.2.2,u.oneCell'=true }
def Wr.cells (x:Wr):List Value:=.int .i64 (x.1.2.1:Int) :: x.1.2.2
theorem Wr.cells_length (x:Wr):x.cells.length=65:=by simp [Wr.cells,x.2.1]
theorem Wr.cells_one (x:Wr):∀ u∈x.cells,u.oneCell'=true:=fun u hu=>(List.mem_cons.1 hu).elim (fun h=>by rw [h];rfl) (fun h=>x.2.2 u h)
def Yj6 (W:World) (b:Nat) (zs:List Wr):Prop:=∀ (j:Nat) (x:Wr),zs[j]? = some x→x.1.1=zs.length - 1 - j∧W.rangeAt b ((zs.length - 1 - j)*65) x.cells
theorem Yj6.below {n₀:Nat} {A B:World} (h:Below n₀ A B) {b:Nat} (hb:b<n₀) {zs:List Wr} (hz:Yj6 A b zs):Yj6 B b zs:=fun j x hx=>
 ⟨(hz j x hx).1,fun i u hu=>(h.cell (p:=⟨b,_,none⟩) hb).trans ((hz j x hx).2 i u hu)⟩
theorem Yw4 (F:Fence) (n:Nat) (h7:F.fn 202) (hro:F.round=none) (hn:1≤n) (l Bs n₀ b cap:Nat) (zs:List Wr) (hlen:zs.length≤100000) (hb:b<n₀) (hBsn:Bs<n₀) (J Jx:List Wr→World→Prop)
 (hY:∀ pre x W,J pre W→pre.length<zs.length→YieldAt F (n - 1) prog l #[.int .i64 (x.1.1:Int),.agg x.cells.toArray] W fun e W'=>
  (e=.returned (.bool true)∧J (pre ++ [x]) W'∧Below n₀ W W')∨(e=.returned (.bool false)∧Jx (pre ++ [x]) W'))
 (W:World) (hBs:W.cell? ⟨Bs,0,none⟩=some (.slice (some ⟨b,0,none⟩) zs.length cap)) (hc:Yj6 W b zs) (h0:J [] W):
 CallsIn F n prog 202 #[.func (.yield l) #[] #[],.pointer (some ⟨Bs,0,none⟩)] W fun e W'=>(∃ v,e=.returned v) ∧
  ((∃ ys,ys=zs∧J ys W')∨(∃ pre,pre <+: zs∧Jx pre W')):=by
 refine callsIn_of_wp func202 rfl h7 ?_ hro
 simp only [ntmps202,List.size_toArray,List.length_cons,List.length_nil,Nat.reduceAdd,Nat.reduceSub,Array.replicate_succ,Array.replicate_zero,List.push_toArray,List.append_toArray,List.nil_append,List.cons_append]
 have hw0:wrap64 ((zs.length:Int) - 1)=(zs.length:Int) - 1:=by simp only [wrap64];omega
 gi_wp2
 gi_loopw [3] (fun i wr=>∃ k:Nat,k≤zs.length∧i=.int .i64 ((zs.length:Int) - 1 - k)∧J (zs.take k) wr∧Below n₀ W wr)
  (fun i _=>((intOf i)+1).toNat)
 case atStart=>exact ⟨0,Nat.zero_le _,by simp,h0,Below.refl _ _⟩
 case round=>
  obtain ⟨k,hk,rfl,hJs,hnx⟩:=hrel;by_cases hlt:k<zs.length
  ·obtain ⟨x,hx⟩:∃ x,zs[k]? = some x:=⟨_,List.getElem?_eq_getElem hlt⟩
   have hnext:zs.take (k+1)=zs.take k ++ [x]:=by rw [List.take_add_one,hx];rfl
   obtain ⟨hx1,hr⟩:=(hc.below hnx hb) k x hx;have hBr:wr.cell? ⟨Bs,0,none⟩=some (.slice (some ⟨b,0,none⟩) zs.length cap):=(hnx.cell (p:=⟨Bs,0,none⟩) hBsn).trans hBs;obtain ⟨i,hi⟩:∃ i:Nat,(zs.length:Int) - 1 - k=(i:Int)∧i=zs.length - 1 - k:=⟨zs.length - 1 - k,by omega,rfl⟩;rw [←hi.2] at hx1 hr;obtain ⟨fn,tmps,assign,body,hy,hR⟩:=hY _ x wr hJs (by rw [List.length_take];omega);rw [hx1] at hy;rw [hi.1];have hil:(i:Int)<(zs.length:Int):=by omega
   have HI:Hid (i=zs.length - 1 - k):=hi.2;clear hi;have hi149:(prog.info? 143).map (·.size)=some x.cells.length:=by rw [Wr.cells_length];exact Yms
   gi_wp2_with (first
    | (refine Yqu rfl 143 (.tmp 15) rfl b (i*65) (by rfl) x.cells _ hr underlying143 rfl hi149 ?_))
   refine hR.mono ?_;rintro e W3 (⟨rfl,hJ3,hk3⟩ | ⟨rfl,hJx3⟩)
   ·gi_wp2
    go_roundw
    case rel=>exact ⟨k+1,by omega,by have:=HI.out;simp <;> omega,by rw [hnext];exact hJ3,hnx.trans hk3⟩
    case measure=>simp [intOf] <;> omega
   ·gi_wp2
    refine bodyPost_ret (results_none rfl _ _ _) rfl ?_;exact ⟨⟨_,rfl⟩,.inr ⟨_,by rw [←hnext];exact List.take_prefix _ _,hJx3⟩⟩
  ·obtain rfl:k=zs.length:=by omega
   have hlt':¬(0:Int)≤(zs.length:Int) - 1 - zs.length:=by omega
   gi_wp2;go_end0;rw [List.take_length] at hJs;exact ⟨⟨_,rfl⟩,.inl hJs⟩
theorem Yw5 (F:Fence) (n:Nat) (h7:F.fn 202) (hro:F.round=none) (l Bs:Nat) (J:List Wr→World→Prop) (W:World) (hBs:W.cell? ⟨Bs,0,none⟩=some (.slice none 0 0)) (h0:J [] W):
 CallsIn F n prog 202 #[.func (.yield l) #[] #[],.pointer (some ⟨Bs,0,none⟩)] W fun e W'=>(∃ v,e=.returned v)∧J [] W':=by
 refine callsIn_of_wp func202 rfl h7 ?_ hro
 simp only [ntmps202,List.size_toArray,List.length_cons,List.length_nil,Nat.reduceAdd,Nat.reduceSub,Array.replicate_succ,Array.replicate_zero,List.push_toArray,List.append_toArray,List.nil_append,List.cons_append]
 gi_wp2
 gi_loopw [3] (fun i wr=>i=.int .i64 (-1)∧J [] wr) (fun _ _=>0)
 case atStart=>exact ⟨rfl,h0⟩
 case round=>
  obtain ⟨rfl,hJs⟩:=hrel;gi_wp2;go_end0;exact ⟨⟨_,rfl⟩,hJs⟩
theorem Yw6 (a:Option Addr) (len cap:Nat) (w:World):
 Calls prog 153 #[.slice a len cap] w fun e w'=>e=.returned (.func (.func 202) #[] #[.pointer (some ⟨w.heap.size,0,none⟩)])∧w.alloc (.cells #[.slice a len cap] 100)=w':=by
 go_enter func153,ntmps153
 go_wp2
 go_ret
 exact ⟨rfl,rfl⟩
def Yh5 (n₀:Nat) (W:World) (sv:Value) (zs:List Wr):Prop:=(sv=.slice none 0 0∧zs=[])∨∃ b cap,sv=.slice (some ⟨b,0,none⟩) zs.length cap∧b<n₀∧Yj6 W b zs
theorem Yh5.below {n₀:Nat} {A B:World} (h:Below n₀ A B) {sv:Value} {zs:List Wr}:Yh5 n₀ A sv zs→Yh5 n₀ B sv zs
 | .inl e=>.inl e
 | .inr ⟨b,cap,e,hb,hc⟩=>.inr ⟨b,cap,e,hb,hc.below h hb⟩
theorem Yw7 (F:Fence) (n:Nat) (h7:F.fn 202) (hro:F.round=none) (hn:1≤n) (Bs n₀:Nat) (sv:Value) (zs:List Wr) (hlen:zs.length≤100000) (w:World) (hBs:Bs<n₀) (hn₀:n₀≤w.heap.size)
 (hc:w.cell? ⟨Bs,0,none⟩=some sv) (hI:Yh5 n₀ w sv zs):
 SeqStopsK F n prog 202 #[.pointer (some ⟨Bs,0,none⟩)] (fun x:Wr=>#[Value.int .i64 (x.1.1:Int),.agg x.cells.toArray]) (Below n₀) (fun ys=>ys=zs) (fun pre=>pre <+: zs) zs.length w:=fun l J Jx W hW _ _ hY h0=>by
 have hc':=(hW.cell (p:=⟨Bs,0,none⟩) (by simp;omega)).trans hc
 rcases hI.below (hW.mono hn₀) with ⟨rfl,rfl⟩ | ⟨b,cap,rfl,hb,hcs⟩
 ·exact (Yw5 F n h7 hro l Bs J W hc' h0).mono fun e W' ⟨he,hj⟩=>⟨he,.inl ⟨_,rfl,hj⟩⟩
 ·exact Yw4 F n h7 hro hn l Bs n₀ b cap zs hlen hb hBs J Jx hY W hc' hcs h0
theorem Ylf {β:Type} (B:Nat) (t:TypeId) (f:β→Array Value):Own (fun s W=>W.heap[B]? = some (.cells (f s) t (0,0))):=fun s X Y row hs hg hrow=>
 (hg.block B (Array.getElem?_eq_some_iff.1 hs).1 (fun e'=>by obtain ⟨o,ho,hc⟩:=hrow B e'.symm;rw [hs] at ho;cases ho;cases hc)).trans hs
end Go.Proofs.YtihbngfbcnojcaaGreat
