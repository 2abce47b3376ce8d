import Derived.Test.YtihbngfbcnojcaaGreatActC03
import Derived.Deep.AppendLies
import Derived.Deep.RegionHeld3
set_option maxRecDepth 100000
set_option maxHeartbeats 8000000
namespace Go.Proofs.YtihbngfbcnojcaaGreat
open Go.RowKit Tryz
variable {xs:List Value} {log:List Yac} {base mb size:Nat} {e:TypeId} {v:Value} {w w' w1:World} {other pairs:Yaf}
structure TxV where
 (id last:Int)
 (read:List ByteArray)
 (writes:Ycl)
 (updates:List Int)
structure TxS where
 (vr vw vu:Value)
def Ye5 (p:TxV×TxS):List Value:=[.int .i64 p.1.id,.int .i64 p.1.last,p.2.vr,p.2.vw,p.2.vu]
def Ya2 (l:List (TxV×TxS)):List Value:=l.flatMap Ye5
theorem Yk9 (l:List (TxV×TxS)):(Ya2 l).length=l.length*5:=by
 induction l with
 | nil=>rfl
 | cons p r ih=>simp only [Ya2,Ye5,List.flatMap_cons,List.length_append,List.length_cons,List.length_nil] at *;omega
theorem Yb4:∀ (l:List (TxV×TxS)) (i:Nat) (p:TxV×TxS),l[i]? = some p→∀ j u,(Ye5 p)[j]? = some u→(Ya2 l)[i*5+j]? = some u
 | [],i,p,h,_,_,_=>by simp at h
 | q :: r,0,p,h,j,u,hu=>by
  simp at h;subst h;have hj:=(List.getElem?_eq_some_iff.1 hu).1;rw [Ya2,List.flatMap_cons,List.getElem?_append_left (by simpa using hj)];simpa using hu
 | q :: r,i+1,p,h,j,u,hu=>by
  have:=Yb4 r i p (by simpa using h) j u hu;have hl:(Ye5 q).length=5:=rfl;rw [Ya2,List.flatMap_cons,List.getElem?_append_right (by rw [hl];omega),hl,show (i+1)*5+j - 5=i*5+j by omega];exact this
def Yc9 (w:World) (p:TxV×TxS):Prop:=
 w.ownsRow 0 9 1 p.2.vr p.1.read.length (p.1.read.map Value.string)∧w.ownsRow 0 206 3 p.2.vw p.1.writes.length (Yco p.1.writes)∧w.ownsRow 0 3 1 p.2.vu p.1.updates.length (p.1.updates.map (Value.int .i64)) ∧
  p.1.read.length≤2000000000000∧p.1.writes.length≤100000∧p.1.updates.length≤100000
def Yf0 (t:TxV) (key:ByteArray) (change:Bool):Bool:=(Yb3 t.writes key).isSome || (change && t.read.any (fun k=>decide (k=key)))
def Ye6 (t:TxV) (key:ByteArray) (change:Bool) (k:Nat):Bool:=(Yb3 t.writes key).isSome || (change && (t.read.take k).any (fun x=>decide (x=key)))
theorem Ym7 (b o:Nat) (p:TxV×TxS) (key:ByteArray) (change:Bool) (w:World) (hc2:w.cell? ⟨b,o+2,none⟩=some p.2.vr) (hc3:w.cell? ⟨b,o+3,none⟩=some p.2.vw) (ht:Yc9 w p):
 Calls prog 170 #[.pointer (some ⟨b,o,none⟩),.string key,.bool change] w fun e w'=>e=.returned (.bool (Yf0 p.1 key change))∧Below w.heap.size w w':=by
 obtain ⟨t,vr,vw,vu⟩:=p
 obtain ⟨h1,h2,_,hl1,hl2,_⟩:=ht
 simp only at h1 h2 hc2 hc3 hl1 hl2 ⊢
 obtain ⟨pr,cr,rfl,hmax⟩:=Ya6 h1
 clear hmax
 have hbw:b<w.heap.size:=World.block_lt_of_cell? w _ hc2
 have hlt0:∀ g,(Value.slice pr t.read.length cr).ownBlock=some g→g<w.heap.size:=fun g hg=>(h1.lt g hg).2
 have HW:Hid (w.cell? ⟨b,o+3,none⟩=some vw∧w.ownsRow 0 206 3 vw t.writes.length (Yco t.writes)):=⟨hc3,h2⟩
 clear h2 hc3
 go_enter func170,ntmps170
 go_wp2_with (first | (go_at_call 135;go_must (
  refine (Yk8 b o vw t.writes key w HW.out.1 HW.out.2 (by omega)).mono ?_;rintro e w1 ⟨rfl,hb1⟩;have d2:w1.cell? ⟨b,o+2,none⟩=some (.slice pr t.read.length cr):=(hb1.cell hbw).trans hc2;have r1:=Ybe h1 hb1 hlt0;clear HW)))
 obtain ⟨W,hW⟩:∃ W,W=w1.alloc (.cells #[.bool ((Yb3 t.writes key).getD (false,ByteArray.empty)).1,.string ((Yb3 t.writes key).getD (false,ByteArray.empty)).2] 38):=⟨_,rfl⟩
 rw [←hW]
 have hBW:Below w.heap.size w W:=by rw [hW];exact (hb1.alloc hb1.size _)
 have d3:W.cell? ⟨b,o+2,none⟩=some (.slice pr t.read.length cr):=(hBW.cell hbw).trans hc2
 have r3:W.ownsRow 0 9 1 (.slice pr t.read.length cr) t.read.length (t.read.map Value.string):=by rw [hW];exact r1.alloc _
 have HB:=Yh hBW
 clear hW hBW d2 r1 hb1
 have h0:(Yb3 t.writes key).isSome=Ye6 t key change 0:=by simp [Ye6]
 rw [h0]
 clear h0
 go_loopw [8,9] (fun u i wr=>∃ k:Nat,k≤t.read.length∧i=.int .i64 k∧u=.bool (Ye6 t key change k)∧wr=W∧(change=false→k=0)) (fun _ i _=>t.read.length - (intOf i).toNat)
 case atStart=>exact ⟨0,by omega,rfl,rfl,rfl,fun _=>rfl⟩
 case round=>
  obtain ⟨k,hk,rfl,rfl,rfl,hch⟩:=hrel;by_cases hlt:k<t.read.length
  ·have hlt':(k:Int)<(t.read.length:Int):=by omega
   cases change with
   | false=>
    have hf:Yf0 t key false=Ye6 t key false k:=by simp [Yf0,Ye6]
    have HF:=Yh hf;clear hf;go_wp2;go_ret;exact ⟨by rw [HF.out];rfl,HB.out⟩
   | true=>
    obtain ⟨g,cap',he⟩:=Ybn r3 (by omega);simp only [Value.slice.injEq] at he;obtain ⟨rfl,-,rfl⟩:=he;have c0:wr.cell? ⟨g,k,none⟩=some (.string t.read[k]):=Yal r3 (by rw [List.getElem?_map,List.getElem?_eq_getElem hlt];rfl);have hs:Ye6 t key true (k+1)=(Ye6 t key true k || decide (t.read[k]=key)):=by
     simp only [Ye6,Bool.true_and];rw [List.take_succ_eq_append_getElem hlt,List.any_append];simp [Bool.or_assoc]
    have HS:=Yh hs;clear hs hch;generalize t.read[k]=kk at c0 HS;by_cases hkk:kk=key
    ·subst hkk
     cases hra:Ye6 t kk true k <;>
     ·rw [hra] at HS
      go_wp2;exact ⟨⟨k+1,by omega,by simp,by rw [HS.out];simp,trivial,by simp⟩,by simp [intOf];omega⟩
    ·have hke:=Yg8 hkk
     cases hra:Ye6 t key true k <;>
     ·rw [hra] at HS
      go_wp2;exact ⟨⟨k+1,by omega,by simp,by rw [HS.out];simp [hkk],trivial,by simp⟩,by simp [intOf];omega⟩
  ·have hlt':¬(k:Int)<(t.read.length:Int):=by omega
   have hf:Yf0 t key change=Ye6 t key change k:=by
    have:k=t.read.length:=by omega
    subst this;simp [Yf0,Ye6]
   have HF:=Yh hf;clear hf;go_wp2;go_ret;exact ⟨by rw [HF.out];rfl,HB.out⟩
structure Ya4 where
 (vp vo vt vl:Value)
structure Ya0 where
 (mode:Int)
 (dead doubt:Bool)
 (given actions:Int)
def Yc6 (n:Ya0) (s:Ya4):Array Value:=#[.int .i64 n.mode,.bool n.dead,.bool n.doubt,s.vp,s.vo,s.vt,.int .i64 n.given,.int .i64 n.actions,s.vl]
def Ya5:List (TxV×TxS)→Int→Option Nat
 | [],_=>none
 | p :: r,t=>if p.1.id=t then some 0 else (Ya5 r t).map (· + 1)
def Ye7:Option Nat→Int
 | none=>-1
 | some i=>i
theorem Yqb:∀ (l:List (TxV×TxS)) (t:Int) (k:Nat),k≤l.length→(∀ j (h:j<l.length),j<k→l[j].1.id≠t)→Ya5 l t=(Ya5 (l.drop k) t).map (· + k)
 | l,t,0,_,_=>by cases h:Ya5 l t <;> simp [h]
 | [],t,k+1,h,_=>by simp at h
 | p :: r,t,k+1,h,hn=>by
  have h0:p.1.id≠t:=hn 0 (by simp) (by omega);rw [Ya5,if_neg h0,Yqb r t k (by simpa using h) (fun j hj hlt=>hn (j+1) (Nat.succ_lt_succ hj) (by omega))];rw [List.drop_succ_cons]
  cases Ya5 (r.drop k) t <;> simp
  omega
theorem Yer (mb:Nat) (n:Ya0) (s:Ya4) (l:List (TxV×TxS)) (t:Int) (w:World) (hm:w.heap[mb]? = some (.cells (Yc6 n s) 119 (0,0))) (hown:w.ownsRow 0 200 5 s.vt l.length (Ya2 l)) (hlen:l.length≤1000):
 Calls prog 133 #[.pointer (some ⟨mb,0,none⟩),.int .i64 t] w fun e w'=>e=.returned (.int .i64 (Ye7 (Ya5 l t)))∧w=w':=by
 obtain ⟨vp,vo,vt,vl⟩:=s
 simp only at hown
 obtain ⟨p,cap,rfl,hmax⟩:=Ya6 hown
 clear hmax
 have cm:w.cell? ⟨mb,5,none⟩=some (.slice p l.length cap):=Yaa hm rfl
 clear hm
 go_enter func133,ntmps133
 go_wp2
 go_loopw [5] (fun i wr=>∃ k:Nat,k≤l.length∧i=.int .i64 k∧wr=w∧(∀ j (h:j<l.length),j<k→l[j].1.id≠t)) (fun i _=>l.length - (intOf i).toNat)
 case atStart=>exact ⟨0,by omega,rfl,rfl,fun j h hj=>by omega⟩
 case round=>
  obtain ⟨k,hk,rfl,rfl,hn⟩:=hrel;have HF:Hid (Ya5 l t=(Ya5 (l.drop k) t).map (· + k)):=Yqb l t k hk hn;have HN:=Yh hn;clear hn;by_cases hlt:k<l.length
  ·have hlt':(k:Int)<(l.length:Int):=by omega
   obtain ⟨g,cap',he⟩:=Ybn hown (by omega);simp only [Value.slice.injEq] at he;obtain ⟨rfl,-,rfl⟩:=he;have c0:wr.cell? ⟨g,k*5,none⟩=some (.int .i64 l[k].1.id):=Yal hown (Yb4 l k l[k] (List.getElem?_eq_getElem hlt) 0 _ rfl);by_cases hid:l[k].1.id=t
   ·have hr:Ya5 l t=some k:=by
     rw [HF.out,List.drop_eq_getElem_cons hlt,Ya5,if_pos hid];simp
    have HR:=Yh hr;clear hr HF HN;rw [hid] at c0;go_wp2;go_ret;exact ⟨by rw [HR.out];rfl,rfl⟩
   ·have hid':(l[k].1.id == t)=false:=by simpa using hid
    have HN1:Hid (∀ j (h:j<l.length),j<k+1→l[j].1.id≠t):=fun j h hj=>by
     by_cases hjk:j=k
     ·subst hjk;exact hid
     ·exact HN.out j h (by omega)
    generalize l[k].1.id=q at c0 hid hid';go_wp2;exact ⟨⟨k+1,by omega,by simp,trivial,HN1.out⟩,by simp [intOf];omega⟩
  ·have hlt':¬(k:Int)<(l.length:Int):=by omega
   have hr:Ya5 l t=none:=by rw [HF.out,List.drop_eq_nil_of_le (by omega)];rfl
   have HR:=Yh hr;clear hr;go_wp2;go_ret;exact ⟨by rw [HR.out];rfl,rfl⟩
theorem Yc9.below {B:Nat} {p:TxV×TxS} (h:Yc9 w p) (hb:Below B w w') (hB:w.heap.size≤B):Yc9 w' p:=
 ⟨Ybe h.1 hb (fun g hg=>by have:=(h.1.lt g hg).2;omega),Ybe h.2.1 hb (fun g hg=>by have:=(h.2.1.lt g hg).2;omega),Ybe h.2.2.1 hb (fun g hg=>by have:=(h.2.2.1.lt g hg).2;omega),h.2.2.2⟩
def Ycp (l:List (TxV×TxS)) (t:Int) (key:ByteArray) (change:Bool):Bool:=l.any fun p=>Yf0 p.1 key change && !(p.1.id == t)
theorem Yh4 (mb:Nat) (n:Ya0) (s:Ya4) (l:List (TxV×TxS)) (t:Int) (key:ByteArray) (change:Bool) (w:World) (hm:w.heap[mb]? = some (.cells (Yc6 n s) 119 (0,0))) (hown:w.ownsRow 0 200 5 s.vt l.length (Ya2 l)) (ht:∀ p∈l,Yc9 w p) (hlen:l.length≤1000):
 Calls prog 130 #[.pointer (some ⟨mb,0,none⟩),.int .i64 t,.string key,.bool change] w fun e w'=>e=.returned (.bool (Ycp l t key change))∧Below w.heap.size w w':=by
 obtain ⟨vp,vo,vt,vl⟩:=s
 simp only at hown
 obtain ⟨p,cap,rfl,hmax⟩:=Ya6 hown
 clear hmax
 have cm:w.cell? ⟨mb,5,none⟩=some (.slice p l.length cap):=Yaa hm rfl
 have hmw:mb<w.heap.size:=Yaj hm
 have hlt0:∀ g,(Value.slice p l.length cap).ownBlock=some g→g<w.heap.size:=fun g hg=>(hown.lt g hg).2
 have HT:=Yh ht
 clear hm ht
 go_enter func130,ntmps130
 go_wp2
 go_loopw [9] (fun i wr=>∃ k:Nat,k≤l.length∧i=.int .i64 k∧Below w.heap.size w wr∧Ycp l t key change=Ycp (l.drop k) t key change) (fun i _=>l.length - (intOf i).toNat)
 case atStart=>exact ⟨0,by omega,rfl,Below.refl _ _,by simp⟩
 case round=>
  obtain ⟨k,hk,rfl,hbr,hu⟩:=hrel;have HB:=Yh hbr;have HU:=Yh hu;have cr:wr.cell? ⟨mb,5,none⟩=some (.slice p l.length cap):=(hbr.cell hmw).trans cm;have hwz:=hbr.size;clear hu;by_cases hlt:k<l.length
  ·have hlt':(k:Int)<(l.length:Int):=by omega
   have hownr:=Ybe hown hbr hlt0;obtain ⟨g,cap',he⟩:=Ybn hownr (by omega);simp only [Value.slice.injEq] at he;obtain ⟨rfl,-,rfl⟩:=he;have hgw:g<w.heap.size:=hlt0 g rfl;have c2:=Yal hownr (Yb4 l k l[k] (List.getElem?_eq_getElem hlt) 2 _ rfl);have c3:=Yal hownr (Yb4 l k l[k] (List.getElem?_eq_getElem hlt) 3 _ rfl);have HC:Hid (wr.cell? ⟨g,k*5+2,none⟩=some l[k].2.vr∧wr.cell? ⟨g,k*5+3,none⟩=some l[k].2.vw∧Yc9 wr l[k]):=⟨c2,c3,(HT.out l[k] (List.getElem_mem hlt)).below hbr (Nat.le_refl _)⟩;have c0:wr.cell? ⟨g,k*5,none⟩=some (.int .i64 l[k].1.id):=Yal hownr (Yb4 l k l[k] (List.getElem?_eq_getElem hlt) 0 _ rfl);have HS:Hid (Ycp (l.drop k) t key change=(Yf0 l[k].1 key change && !(l[k].1.id == t) || Ycp (l.drop (k+1)) t key change)):=by
    show _=_;rw [List.drop_eq_getElem_cons hlt,Ycp,List.any_cons];rfl
   clear c2 c3 hownr hbr;generalize l[k]=q at c0 HC HS
   cases hh:Yf0 q.1 key change with
   | false=>
    rw [hh] at HS;go_wp2_with (first | (go_at_call 170;go_must (
     refine (Ym7 g (k*5) q key change wr HC.out.1 HC.out.2.1 HC.out.2.2).mono ?_;rw [hh];rintro e w2 ⟨rfl,hb2⟩)))
    exact ⟨⟨k+1,by omega,by simp,HB.out.trans (hb2.mono (by omega)),by rw [HU.out,HS.out];simp⟩,by simp [intOf];omega⟩
   | true=>
    rw [hh] at HS;by_cases hid:q.1.id=t
    ·have hq:(q.1.id == t)=true:=by simpa using hid
     have hq2:(q.1.id != t)=false:=by simpa using hid
     have HS2:Hid (Ycp (l.drop k) t key change=Ycp (l.drop (k+1)) t key change):=by show _=_;rw [HS.out,hq];simp
     generalize q.1.id=qi at c0 hq hq2 hid;go_wp2_with (first | (go_at_call 170;go_must (
      refine (Ym7 g (k*5) q key change wr HC.out.1 HC.out.2.1 HC.out.2.2).mono ?_;rw [hh];rintro e w2 ⟨rfl,hb2⟩;have cr2:w2.cell? ⟨mb,5,none⟩=some (.slice (some ⟨g,0,none⟩) l.length cap):=(hb2.cell (show mb<_ by omega)).trans cr;have c02:w2.cell? ⟨g,k*5,none⟩=some (.int .i64 qi):=(hb2.cell (show g<_ by omega)).trans c0)))
     exact ⟨⟨k+1,by omega,by simp,HB.out.trans (hb2.mono (by omega)),by rw [HU.out,HS2.out]⟩,by simp [intOf];omega⟩
    ·have hq:(q.1.id == t)=false:=by simpa using hid
     have hq2:(q.1.id != t)=true:=by simpa using hid
     have HS2:Hid (Ycp l t key change=true):=by show _=_;rw [HU.out,HS.out,hq];simp
     generalize q.1.id=qi at c0 hq hq2 hid;go_wp2_with (first | (go_at_call 170;go_must (
      refine (Ym7 g (k*5) q key change wr HC.out.1 HC.out.2.1 HC.out.2.2).mono ?_;rw [hh];rintro e w2 ⟨rfl,hb2⟩;have cr2:w2.cell? ⟨mb,5,none⟩=some (.slice (some ⟨g,0,none⟩) l.length cap):=(hb2.cell (show mb<_ by omega)).trans cr;have c02:w2.cell? ⟨g,k*5,none⟩=some (.int .i64 qi):=(hb2.cell (show g<_ by omega)).trans c0)))
     go_ret;exact ⟨by rw [HS2.out];rfl,HB.out.trans (hb2.mono (by omega))⟩
  ·have hlt':¬(k:Int)<(l.length:Int):=by omega
   have HR:Hid (Ycp l t key change=false):=by show _=_;rw [HU.out,List.drop_eq_nil_of_le (by omega)];rfl
   clear hbr;go_wp2;go_ret;exact ⟨by rw [HR.out];rfl,HB.out⟩
theorem Yha (key:ByteArray) (w:World) (hk:key.size≤1000000):
 Calls prog 214 #[.string key] w fun e w'=>e=.returned (.int .i64 (Yae key))∧w=w':=by
 go_enter func214,ntmps214
 go_wp2
 have HK:=Yh hk
 go_loopw [3,4] (fun u i wr=>∃ k:Nat,k≤key.size∧i=.int .i64 k∧u=.int .i64 (Ye4 key k)∧wr=w) (fun _ i _=>key.size - (intOf i).toNat)
 case atStart=>exact ⟨0,by omega,rfl,rfl,rfl⟩
 case round=>
  obtain ⟨k,hk',rfl,rfl,rfl⟩:=hrel;have hle:=Ym0 key k;by_cases hlt:k<key.size
  ·have hlt':(k:Int)<(key.size:Int):=by omega
   have hs:Ye4 key (k+1)=Ye4 key k+(key.data[k]?.getD 0).toNat:=rfl;have hb:(key.data[k]?.getD 0).toNat<256:=UInt8.toNat_lt _;have HS:=Yh hs;clear hs;have HE:Hid (key[k].toNat=(key.data[k]?.getD 0).toNat):=by
    show _=_;have h2:k<key.data.size:=hlt;rw [Array.getElem?_eq_getElem h2];rfl
   go_wp2;refine ⟨⟨k+1,by omega,by simp,?_,trivial⟩,by simp [intOf];omega⟩;have h1:=HS.out;have h2:=HE.out;have h3:=HK.out;rw [h1,h2];clear HS HE h1 h2;generalize (key.data[k]?.getD 0).toNat=b at hb;generalize Ye4 key k=t at hle;have e1:wrap64 (b:Int)=b:=by unfold wrap64;omega
   rw [e1];have e2:wrap64 ((t:Int)+b)=((t+b:Nat):Int):=by unfold wrap64;omega
   rw [e2]
  ·have hlt':¬(k:Int)<(key.size:Int):=by omega
   have hkk:k=key.size:=by omega
   subst hkk;go_wp2;go_ret;exact ⟨by rw [Yae];rfl,rfl⟩
def Yca (dead:Bool) (ix:Option Nat) (key:ByteArray):Int×Int:=
 if dead then (0,3) else match ix with
  | none=>(0,5)
  | some i=>if key.size<1∨8<key.size then (0,6) else (i,0)
theorem Yf1 (mb:Nat) (n:Ya0) (s:Ya4) (l:List (TxV×TxS)) (t:Int) (key:ByteArray) (w:World) (hm:w.heap[mb]? = some (.cells (Yc6 n s) 119 (0,0))) (hown:w.ownsRow 0 200 5 s.vt l.length (Ya2 l)) (hlen:l.length≤1000):
 Calls prog 129 #[.pointer (some ⟨mb,0,none⟩),.int .i64 t,.string key] w fun e w'=>e=.returned (.tuple #[.int .i64 (Yca n.dead (Ya5 l t) key).1,.int .i64 (Yca n.dead (Ya5 l t) key).2])∧w=w':=by
 have c1:w.cell? ⟨mb,1,none⟩=some (.bool n.dead):=Yaa hm rfl
 have HM:Hid (w.heap[mb]? = some (.cells (Yc6 n s) 119 (0,0))∧w.ownsRow 0 200 5 s.vt l.length (Ya2 l)):=⟨hm,hown⟩
 clear hm hown
 cases hd:n.dead with
 | true=>
  rw [hd] at c1;go_enter func129,ntmps129;go_wp2_with (first | (go_at_call 133;refine (Yer mb n s l t w HM.out.1 HM.out.2 hlen).mono ?_;rintro e w' ⟨rfl,rfl⟩))
  go_ret2;exact ⟨rfl,rfl⟩
 | false=>
  rw [hd] at c1
  cases hf:Ya5 l t with
  | none=>
   go_enter func129,ntmps129;go_wp2_with (first | (go_at_call 133;refine (Yer mb n s l t w HM.out.1 HM.out.2 hlen).mono ?_;rw [hf,Ye7];rintro e w' ⟨rfl,rfl⟩))
   go_ret2;exact ⟨rfl,rfl⟩
  | some i=>
   have hi:¬((i:Int)<0):=by omega
   by_cases hk1:key.size<1
   ·have hk1':(key.size:Int)<1:=by omega
    have HA:Hid (Yca false (some i) key=(0,6)):=by show _=_;simp [Yca,hk1]
    go_enter func129,ntmps129;go_wp2_with (first | (go_at_call 133;refine (Yer mb n s l t w HM.out.1 HM.out.2 hlen).mono ?_;rw [hf,Ye7];rintro e w' ⟨rfl,rfl⟩))
    go_ret2;exact ⟨by rw [HA.out];rfl,rfl⟩
   ·have hk1':¬(key.size:Int)<1:=by omega
    by_cases hk2:8<key.size
    ·have hk2':(8:Int)<(key.size:Int):=by omega
     have HA:Hid (Yca false (some i) key=(0,6)):=by show _=_;simp [Yca,hk2]
     go_enter func129,ntmps129;go_wp2_with (first | (go_at_call 133;refine (Yer mb n s l t w HM.out.1 HM.out.2 hlen).mono ?_;rw [hf,Ye7];rintro e w' ⟨rfl,rfl⟩))
     go_ret2;exact ⟨by rw [HA.out];rfl,rfl⟩
    ·have hk2':¬(8:Int)<(key.size:Int):=by omega
     have HA:Hid (Yca false (some i) key=((i:Int),0)):=by show _=_;simp only [Yca];rw [if_neg (by simp),if_neg (by omega)]
     go_enter func129,ntmps129;go_wp2_with (first | (go_at_call 133;refine (Yer mb n s l t w HM.out.1 HM.out.2 hlen).mono ?_;rw [hf,Ye7];rintro e w' ⟨rfl,rfl⟩))
     go_ret2;exact ⟨by rw [HA.out];rfl,rfl⟩
def Ycb (t:TxV) (pairs:Yaf) (key:ByteArray):Bool×ByteArray:=(Yb3 t.writes key).getD (Yag pairs key)
theorem Ym8 (mb:Nat) (n:Ya0) (s:Ya4) (l:List (TxV×TxS)) (pairs:Yaf) (i:Nat) (p:TxV×TxS) (key:ByteArray) (w:World) (hm:w.heap[mb]? = some (.cells (Yc6 n s) 119 (0,0))) (hown:w.ownsRow 0 200 5 s.vt l.length (Ya2 l))
 (hp:w.ownsRow 0 43 2 s.vp pairs.length (Yad pairs)) (ht:Yc9 w p) (hi:l[i]? = some p) (hlen:l.length≤1000):
 Calls prog 131 #[.pointer (some ⟨mb,0,none⟩),.int .i64 i,.string key] w fun e w'=>e=.returned (.agg #[.bool (Ycb p.1 pairs key).1,.string (Ycb p.1 pairs key).2])∧Below w.heap.size w w':=by
 have hil:i<l.length:=(List.getElem?_eq_some_iff.1 hi).1
 have hil':(i:Int)<(l.length:Int):=by omega
 obtain ⟨vp,vo,vt,vl⟩:=s
 simp only at hown hp
 obtain ⟨g,cap,rfl⟩:=Ybn hown (by omega)
 have cm5:w.cell? ⟨mb,5,none⟩=some (.slice (some ⟨g,0,none⟩) l.length cap):=Yaa hm rfl
 have cm3:w.cell? ⟨mb,3,none⟩=some vp:=Yaa hm rfl
 have hmw:mb<w.heap.size:=Yaj hm
 have c3:=Yal hown (Yb4 l i p hi 3 _ rfl)
 have HX:Hid (∀ w1:World,Below w.heap.size w w1→w1.cell? ⟨mb,3,none⟩=some vp∧w1.ownsRow 0 43 2 vp pairs.length (Yad pairs)):=fun w1 hb=>
  ⟨(hb.cell hmw).trans cm3,Ybe hp hb (fun g hg=>(hp.lt g hg).2)⟩
 have HW:Hid (∀ w1:World,Below w.heap.size w w1→w1.cell? ⟨g,i*5+3,none⟩=some p.2.vw∧w1.ownsRow 0 206 3 p.2.vw p.1.writes.length (Yco p.1.writes)):=fun w1 hb=>
  ⟨(hb.cell (show g<_ from (hown.lt g rfl).2)).trans c3,Ybe ht.2.1 hb (fun g hg=>(ht.2.1.lt g hg).2)⟩
 have hwl:=ht.2.2.2.2.1
 clear hm hown hp ht c3
 have HB0:Hid (Below w.heap.size w (w.alloc (.cells #[.bool false,.string ByteArray.empty] 38))):=(Below.refl _ _).alloc (Nat.le_refl _) _
 have HN0:Hid ((w.alloc (.cells #[.bool false,.string ByteArray.empty] 38)).heap[w.heap.size]? = some (.cells #[.bool false,.string ByteArray.empty] 38 (0,0))):=heap_alloc_new w _
 cases hwr:Yb3 p.1.writes key with
 | some x=>
  obtain ⟨b0,v0⟩:=x;have HV:Hid (Ycb p.1 pairs key=(b0,v0)):=by show _=_;simp [Ycb,hwr]
  go_enter func131,ntmps131;go_wp2_with (first | (go_at_call 135;go_must (
   refine (Yk8 g (i*5) p.2.vw p.1.writes key _ (HW.out _ HB0.out).1 (HW.out _ HB0.out).2 (by omega)).mono ?_;rw [hwr];rintro e w2 ⟨rfl,hb2⟩;have HB2:Hid (Below w.heap.size w w2):=HB0.out.trans (hb2.mono (by simp));have HN2:Hid (w2.heap[w.heap.size]? = some (.cells #[.bool false,.string ByteArray.empty] 38 (0,0))):=(hb2.block _ (by simp)).trans HN0.out;have hz2:w.heap.size<w2.heap.size:=Yaj HN2.out;have n0:w2.cell? ⟨w.heap.size,0,none⟩=some (.bool false):=Yaa HN2.out rfl;have n1:w2.cell? ⟨w.heap.size,1,none⟩=some (.string ByteArray.empty):=Yaa HN2.out rfl;have f0:=Yah 0 HN2.out;have f1:=Yah 1 HN2.out;clear hb2 HW HX cm5 cm3)))
  have HF:Hid ((((w2.setCell ⟨w.heap.size,0,none⟩ (.bool b0)).setCell ⟨w.heap.size,1,none⟩ (.string v0)).alloc (.cells #[.bool b0,.string v0] 38)).heap[w.heap.size]? = some (.cells #[.bool b0,.string v0] 38 (0,0))):=by
   refine (Below.heap_alloc _ _ _ (by simpa using hz2)).trans ?_;exact (Yak _ _ 1 _ _ _ (Yak _ _ 0 _ _ _ HN2.out)).trans rfl
  refine bodyPost_ret (v:=.agg #[.bool b0,.string v0]) ?_ rfl ⟨by rw [HV.out],?_⟩
  ·exact results_cell_row Tryz.results131 _ _ w.heap.size 38 #[.bool b0,.string v0] (0,0) _ rfl HF.out underlying38 rfl (by kernel_rfl)
  ·exact (((HB2.out.setCell (p:=⟨w.heap.size,0,none⟩) (Nat.le_refl _) _).setCell (p:=⟨w.heap.size,1,none⟩) (Nat.le_refl _) _)).alloc (by simp;omega) _
 | none=>
  have HV:Hid (Ycb p.1 pairs key=Yag pairs key):=by show _=_;simp [Ycb,hwr]
  go_enter func131,ntmps131;go_wp2_with (first | (go_at_call 135;go_must (
   refine (Yk8 g (i*5) p.2.vw p.1.writes key _ (HW.out _ HB0.out).1 (HW.out _ HB0.out).2 (by omega)).mono ?_;rw [hwr];rintro e w2 ⟨rfl,hb2⟩;have HB2:Hid (Below w.heap.size w w2):=HB0.out.trans (hb2.mono (by simp));have HN2:Hid (w2.heap[w.heap.size]? = some (.cells #[.bool false,.string ByteArray.empty] 38 (0,0))):=(hb2.block _ (by simp)).trans HN0.out;have hz2:w.heap.size<w2.heap.size:=Yaj HN2.out;have cm3':=(HX.out w2 HB2.out).1;have hmw2:mb<w2.heap.size:=by omega
   clear hb2 HW cm5 cm3)))
  obtain ⟨W2,hW2⟩:∃ W2,W2=w2.alloc (.cells #[.bool false,.string ByteArray.empty] 38):=⟨_,rfl⟩;rw [←hW2];have hb2':Below w.heap.size w W2:=by rw [hW2];exact HB2.out.alloc (by omega) _
  have hn2:W2.heap[w2.heap.size]? = some (.cells #[.bool false,.string ByteArray.empty] 38 (0,0)):=by rw [hW2];exact heap_alloc_new w2 _
  have hn1:W2.heap[w.heap.size]? = some (.cells #[.bool false,.string ByteArray.empty] 38 (0,0)):=by rw [hW2];exact (Below.heap_alloc _ _ _ hz2).trans HN2.out
  have hzz:W2.heap.size=w2.heap.size+1:=by rw [hW2];simp
  clear hW2;refine (Yk3 0 vp pairs key W2 (HX.out W2 hb2').2).mono ?_;rintro e w3 ⟨rfl,hb3⟩;have HB3:Hid (Below w.heap.size w w3):=hb2'.trans (hb3.mono hb2'.size);have hn2':=(hb3.block _ (Yaj hn2)).trans hn2;have hn1':=(hb3.block _ (Yaj hn1)).trans hn1;have m0:w3.cell? ⟨w2.heap.size,0,none⟩=some (.bool false):=Yaa hn2' rfl;have m1:w3.cell? ⟨w2.heap.size,1,none⟩=some (.string ByteArray.empty):=Yaa hn2' rfl;have g0:=Yah 0 hn2';have g1:=Yah 1 hn2';have n0:w3.cell? ⟨w.heap.size,0,none⟩=some (.bool false):=Yaa hn1' rfl;have n1:w3.cell? ⟨w.heap.size,1,none⟩=some (.string ByteArray.empty):=Yaa hn1' rfl;have f0:=Yah 0 hn1';have f1:=Yah 1 hn1';have HN3:Hid (w3.heap[w.heap.size]? = some (.cells #[.bool false,.string ByteArray.empty] 38 (0,0))∧w3.heap[w2.heap.size]? = some (.cells #[.bool false,.string ByteArray.empty] 38 (0,0))):=⟨hn1',hn2'⟩;have hnn:w.heap.size≠w2.heap.size:=by omega
  have hnn':w2.heap.size≠w.heap.size:=by omega
  clear hb3 hb2' hn2 hn1 hn1' hn2' HX cm3';generalize Yag pairs key=ud at HV;obtain ⟨u0,u1⟩:=ud;go_wp2;refine bodyPost_ret (v:=.agg #[.bool u0,.string u1]) ?_ rfl ⟨by rw [HV.out],?_⟩
  ·refine results_cell_row Tryz.results131 _ _ w.heap.size 38 #[.bool u0,.string u1] (0,0) _ rfl ?_ underlying38 rfl (by kernel_rfl)
   have k1:=(Below.heap_setCell (w3.setCell ⟨w2.heap.size,0,none⟩ (.bool u0)) ⟨w2.heap.size,1,none⟩ (.string u1) w.heap.size hnn).trans ((Below.heap_setCell w3 ⟨w2.heap.size,0,none⟩ (.bool u0) w.heap.size hnn).trans HN3.out.1);exact (Yak _ _ 1 _ _ _ (Yak _ _ 0 _ _ _ k1)).trans rfl
  ·have hle:w.heap.size≤w2.heap.size:=by omega
   exact (((HB3.out.setCell (p:=⟨w2.heap.size,0,none⟩) hle _).setCell (p:=⟨w2.heap.size,1,none⟩) hle _).setCell (p:=⟨w.heap.size,0,none⟩) (Nat.le_refl _) _).setCell (p:=⟨w.heap.size,1,none⟩) (Nat.le_refl _) _
def Yf2:Bool→Nat
 | true=>0
 | false=>1
theorem Yvy (key val:ByteArray) (st:Yaf×Bool) (p:ByteArray×ByteArray):(Yby key val st p).1.length+Yf2 (Yby key val st p).2≤st.1.length+Yf2 st.2+1:=by
 obtain ⟨o,d⟩:=st;unfold Yby
 cases d <;> simp only [Bool.true_eq_false,false_and,if_false,true_and]
 ·split <;> split <;> simp [Yf2]
 ·split <;> simp [Yf2]
theorem Yqc (key val:ByteArray):∀ (m:Yaf) (st:Yaf×Bool),(m.foldl (Yby key val) st).1.length+Yf2 (m.foldl (Yby key val) st).2≤st.1.length+Yf2 st.2+m.length
 | [],st=>by simp
 | p :: r,st=>by
  have h1:=Yqc key val r (Yby key val st p);have h2:=Yvy key val st p;simp only [List.foldl_cons,List.length_cons];omega
theorem Ym9 (l:Yaf) (key val:ByteArray) (is:Bool):(Yaw l key is val).length≤l.length+1:=by
 have h:=Yqc key val l ([],!is);have hp:Yf2 (!is)≤1:=by cases is <;> simp [Yf2]
 have hw:Yaw l key is val=if (l.foldl (Yby key val) ([],!is)).2 then (l.foldl (Yby key val) ([],!is)).1 else (l.foldl (Yby key val) ([],!is)).1 ++ [(key,val)]:=rfl
 rw [hw]
 cases hd:(l.foldl (Yby key val) ([],!is)).2 <;> rw [hd] at h <;> simp [Yf2] at h ⊢ <;> simp [Yf2] at hp <;> omega
def Ydw (key:ByteArray) (l:Yaf) (k:ByteArray):Yaf:=if Yae k=Yae key then Yaw l k true ByteArray.empty else l
theorem Yvz (key:ByteArray) (l:Yaf) (k:ByteArray):(Ydw key l k).length≤l.length+1:=by
 unfold Ydw;split
 ·exact Ym9 _ _ _ _
 ·omega
def Ybj (key:ByteArray) (l:Yaf) (ks:List ByteArray):Yaf:=ks.foldl (Ydw key) l
theorem Yna (key:ByteArray):∀ (ks:List ByteArray) (l:Yaf),(Ybj key l ks).length≤l.length+ks.length
 | [],l=>by simp [Ybj]
 | k :: r,l=>by
  have h1:=Yna key r (Ydw key l k);have h2:=Yvz key l k;simp only [Ybj,List.foldl_cons,List.length_cons] at *;omega
def Ye8 (pairs:Yaf) (l:List (TxV×TxS)):List ByteArray:=pairs.map (·.1) ++ l.flatMap (fun p=>p.1.writes.map (·.1))
def Yes (pairs:Yaf) (l:List (TxV×TxS)) (key:ByteArray):Bool:=
 let m:=Ybj key [] (Ye8 pairs l)
 (Yag m key).1 || decide (m.length<4)
theorem Yla (mb:Nat) (n:Ya0) (s:Ya4) (l:List (TxV×TxS)) (pairs:Yaf) (key:ByteArray) (w:World) (hm:w.heap[mb]? = some (.cells (Yc6 n s) 119 (0,0))) (hown:w.ownsRow 0 200 5 s.vt l.length (Ya2 l))
 (hp:w.ownsRow 0 43 2 s.vp pairs.length (Yad pairs)) (ht:∀ p∈l,Yc9 w p) (hlen:l.length≤10) (hpl:pairs.length≤1000) (hwl:∀ p∈l,p.1.writes.length≤1000)
 (hk:key.size≤1000) (hkp:∀ p∈pairs,p.1.size≤1000) (hkw:∀ p∈l,∀ x∈p.1.writes,x.1.size≤1000):
 Calls prog 171 #[.pointer (some ⟨mb,0,none⟩),.string key] w fun e w'=>e=.returned (.bool (Yes pairs l key))∧Below w.heap.size w w':=by
 obtain ⟨vp,vo,vt,vl⟩:=s
 simp only at hown hp
 obtain ⟨ap,cp,rfl,_⟩:=Ya6 hp
 obtain ⟨at',ct,rfl,_⟩:=Ya6 hown
 have cm5:w.cell? ⟨mb,5,none⟩=some (.slice at' l.length ct):=Yaa hm rfl
 have cm3:w.cell? ⟨mb,3,none⟩=some (.slice ap pairs.length cp):=Yaa hm rfl
 have hmw:mb<w.heap.size:=Yaj hm
 have HP:=Yh hp
 have HO:=Yh hown
 have HT:Hid (∀ p∈l,Yc9 w p∧p.1.writes.length≤1000∧∀ x∈p.1.writes,x.1.size≤1000):=fun p hp=>⟨ht p hp,hwl p hp,hkw p hp⟩
 have HKP:=Yh hkp
 clear hm hown hp ht hwl hkw hkp
 go_enter func171,ntmps171
 go_wp2
 have hkz:key.size≤1000000:=by omega
 clear hk
 go_loopw [5,6] (fun u i wr=>∃ k:Nat,k≤pairs.length∧i=.int .i64 k∧wr.ownsRow w.heap.size 43 2 u (Ybj key [] ((pairs.take k).map (·.1))).length (Yad (Ybj key [] ((pairs.take k).map (·.1))))∧Below w.heap.size w wr) (fun _ i _=>pairs.length - (intOf i).toNat)
 case atStart=>exact ⟨0,by omega,rfl,World.ownsRow_nil _ _ _ _,Below.refl _ _⟩
 case round=>
  obtain ⟨k,hk,rfl,hrow,hbr⟩:=hrel;have HB:=Yh hbr;have HR:=Yh hrow;have hml:=Yna key ((pairs.take k).map (·.1)) [];have cr3:wr.cell? ⟨mb,3,none⟩=some (.slice ap pairs.length cp):=(hbr.cell hmw).trans cm3;have hwz:=hbr.size;by_cases hlt:k<pairs.length
  ·have hlt':(k:Int)<(pairs.length:Int):=by omega
   have hpr:=Ybe HP.out hbr (fun g hg=>(HP.out.lt g hg).2);obtain ⟨g,cap',he⟩:=Ybn hpr (by omega);simp only [Value.slice.injEq] at he;obtain ⟨rfl,-,rfl⟩:=he;have hgw:g<w.heap.size:=(HP.out.lt g rfl).2;obtain ⟨d0,_⟩:=Ye2 pairs k pairs[k] (List.getElem?_eq_getElem hlt);have c0:=Yal hpr d0;have hk0:pairs[k].1.size≤1000000:=by have:=HKP.out pairs[k] (List.getElem_mem hlt);omega
   have HS:Hid (Ybj key [] ((pairs.take (k+1)).map (·.1))=Ydw key (Ybj key [] ((pairs.take k).map (·.1))) pairs[k].1):=by
    show _=_;rw [List.take_succ_eq_append_getElem hlt,List.map_append,Ybj,List.foldl_append];rfl
   have HML:Hid ((Ybj key [] ((pairs.take k).map (·.1))).length≤2000):=by
    show _≤_;have h1:((pairs.take k).map (·.1)).length≤1000:=by rw [List.length_map,List.length_take];omega
    rw [List.length_nil] at hml;omega
   clear d0 hpr hml hbr hrow;generalize Ybj key [] ((pairs.take k).map (·.1))=M at HR HS HML;generalize pairs[k].1=k0 at c0 hk0 HS;have tok1:True:=trivial;by_cases hb:Yae k0=Yae key
   ·have hbe:((Yae k0:Int) == (Yae key:Int))=true:=by simp [hb]
    have HS2:Hid (Ybj key [] ((pairs.take (k+1)).map (·.1))=Yaw M k0 true ByteArray.empty):=by show _=_;rw [HS.out,Ydw,if_pos hb]
    go_wp2_with (first
     | (go_at_call 214;have _t:=tok1;go_must (
      refine (Yha k0 wr hk0).mono ?_;rintro e w' ⟨rfl,rfl⟩;clear tok1))
     | (go_at_call 214;go_must (
      refine (Yha key wr hkz).mono ?_;rintro e w' ⟨rfl,rfl⟩))
     | (go_at_call 134;go_must (
      refine (Yk4 w.heap.size _ M k0 true ByteArray.empty wr HR.out (by have:=HML.out;omega)).mono ?_;rintro e w2 ⟨v2,rfl,ho2,hb2⟩;have HR2:Hid (w2.ownsRow w.heap.size 43 2 v2 (Yaw M k0 true ByteArray.empty).length (Yad (Yaw M k0 true ByteArray.empty))):=Yfg ho2 (by omega);have HB2:Hid (Below w.heap.size w w2):=HB.out.trans (hb2.mono (by omega));clear ho2 hb2)))
    exact ⟨⟨k+1,by omega,by simp,by rw [HS2.out];exact HR2.out,HB2.out⟩,by simp [intOf];omega⟩
   ·have hbe:((Yae k0:Int) == (Yae key:Int))=false:=by
     rw [beq_eq_false_iff_ne];intro h;exact hb (by exact_mod_cast h)
    have HS2:Hid (Ybj key [] ((pairs.take (k+1)).map (·.1))=M):=by show _=_;rw [HS.out,Ydw,if_neg hb]
    go_wp2_with (first
     | (go_at_call 214;have _t:=tok1;go_must (
      refine (Yha k0 wr hk0).mono ?_;rintro e w' ⟨rfl,rfl⟩;clear tok1))
     | (go_at_call 214;go_must (
      refine (Yha key wr hkz).mono ?_;rintro e w' ⟨rfl,rfl⟩)))
    exact ⟨⟨k+1,by omega,by simp,by rw [HS2.out];exact HR.out,HB.out⟩,by simp [intOf];omega⟩
  ·have hlt':¬(k:Int)<(pairs.length:Int):=by omega
   have hkk:pairs.take k=pairs:=List.take_of_length_le (by omega);rw [hkk] at HR;have h1:(pairs.map (·.1)).length≤1000:=by rw [List.length_map];omega
   rw [hkk,List.length_nil] at hml;have HML:Hid ((Ybj key [] (pairs.map (·.1))).length≤1000):=by show _≤_;omega
   clear hml hrow hbr h1 hkk;generalize hM0:Ybj key [] (pairs.map (·.1))=M0 at HR HML;have HM0:=Yh hM0;clear hM0;go_wp2;have HRK:Hid (Ybj key [] (Ye8 pairs l)=Ybj key M0 (l.flatMap (fun p=>p.1.writes.map (·.1)))):=by
    show _=_;rw [←HM0.out];simp only [Ye8,Ybj,List.foldl_append]
   clear cr3;go_loopw [5,8] (fun u i w3=>∃ j:Nat,j≤l.length∧i=.int .i64 j∧w3.ownsRow w.heap.size 43 2 u (Ybj key M0 ((l.take j).flatMap (fun p=>p.1.writes.map (·.1)))).length (Yad (Ybj key M0 ((l.take j).flatMap (fun p=>p.1.writes.map (·.1)))))∧Below w.heap.size w w3∧(Ybj key M0 ((l.take j).flatMap (fun p=>p.1.writes.map (·.1)))).length≤1000+1000*j) (fun _ i _=>l.length - (intOf i).toNat)
   case atStart=>exact ⟨0,by omega,rfl,HR.out,HB.out,HML.out⟩
   case round=>
    obtain ⟨j,hj,rfl,hrow,hbr3,hml3⟩:=hrel;have HB3:=Yh hbr3;have cr5:wr.cell? ⟨mb,5,none⟩=some (.slice at' l.length ct):=(hbr3.cell hmw).trans cm5;have hwz3:=hbr3.size;by_cases hlt3:j<l.length
    ·have hlt3':(j:Int)<(l.length:Int):=by omega
     have hor:=Ybe HO.out hbr3 (fun g hg=>(HO.out.lt g hg).2);obtain ⟨g,cap',he⟩:=Ybn hor (by omega);simp only [Value.slice.injEq] at he;obtain ⟨rfl,-,rfl⟩:=he;have hgw:g<w.heap.size:=(HO.out.lt g rfl).2;have c3:=Yal hor (Yb4 l j l[j] (List.getElem?_eq_getElem hlt3) 3 _ rfl);have HTX:=HT.out l[j] (List.getElem_mem hlt3);have HS:Hid (Ybj key M0 ((l.take (j+1)).flatMap (fun p=>p.1.writes.map (·.1)))=Ybj key (Ybj key M0 ((l.take j).flatMap (fun p=>p.1.writes.map (·.1)))) (l[j].1.writes.map (·.1))):=by
      show _=_;rw [List.take_succ_eq_append_getElem hlt3,List.flatMap_append,Ybj,List.foldl_append];simp [Ybj]
     have HR3:=Yh hrow;have HC3:Hid (wr.cell? ⟨g,j*5+3,none⟩=some l[j].2.vw∧w.ownsRow 0 206 3 l[j].2.vw l[j].1.writes.length (Yco l[j].1.writes)):=⟨c3,HTX.1.2.1⟩;have hwl:=HTX.2.1;have HKW:Hid (∀ x∈l[j].1.writes,x.1.size≤1000):=HTX.2.2;clear hrow hbr3 hor c3 HTX HR HB HML HM0;generalize Ybj key M0 ((l.take j).flatMap (fun p=>p.1.writes.map (·.1)))=M at HR3 HS hml3;generalize l[j].2.vw=vw at HC3;generalize l[j].1.writes=ws at HC3 HS hwl HKW;obtain ⟨aw,cw,rfl,_⟩:=Ya6 HC3.out.2;have c3:=HC3.out.1;have HW:Hid (w.ownsRow 0 206 3 (.slice aw ws.length cw) ws.length (Yco ws)):=HC3.out.2;clear HC3;go_wp2;go_loopw [5,10] (fun u i w4=>∃ q:Nat,q≤ws.length∧i=.int .i64 q∧w4.ownsRow w.heap.size 43 2 u (Ybj key M ((ws.take q).map (·.1))).length (Yad (Ybj key M ((ws.take q).map (·.1))))∧Below w.heap.size w w4) (fun _ i _=>ws.length - (intOf i).toNat)
     case atStart=>exact ⟨0,by omega,rfl,HR3.out,HB3.out⟩
     case round=>
      obtain ⟨q,hq,rfl,hrow,hbr4⟩:=hrel;have HB4:=Yh hbr4;have HR4:=Yh hrow;have hwz4:=hbr4.size;have hml:=Yna key ((ws.take q).map (·.1)) M;by_cases hlt4:q<ws.length
      ·have hlt4':(q:Int)<(ws.length:Int):=by omega
       have hpr:=Ybe HW.out hbr4 (fun g hg=>(HW.out.lt g hg).2);obtain ⟨gq,cap',he⟩:=Ybn hpr (by omega);simp only [Value.slice.injEq] at he;obtain ⟨rfl,-,rfl⟩:=he;obtain ⟨d0,_,_⟩:=Yiv ws q ws[q] (List.getElem?_eq_getElem hlt4);have c0:=Yal hpr d0;have hk0:ws[q].1.size≤1000000:=by have:=HKW.out ws[q] (List.getElem_mem hlt4);omega
       have HS4:Hid (Ybj key M ((ws.take (q+1)).map (·.1))=Ydw key (Ybj key M ((ws.take q).map (·.1))) ws[q].1):=by
        show _=_;rw [List.take_succ_eq_append_getElem hlt4,List.map_append,Ybj,List.foldl_append];rfl
       have HML4:Hid ((Ybj key M ((ws.take q).map (·.1))).length≤50000):=by
        show _≤_;have h1:((ws.take q).map (·.1)).length≤1000:=by rw [List.length_map,List.length_take];omega
        omega
       clear d0 hpr hml hbr4 hrow;generalize Ybj key M ((ws.take q).map (·.1))=M4 at HR4 HS4 HML4;generalize ws[q].1=k0 at c0 hk0 HS4;have tok1:True:=trivial;by_cases hb:Yae k0=Yae key
       ·have hbe:((Yae k0:Int) == (Yae key:Int))=true:=by simp [hb]
        have HS2:Hid (Ybj key M ((ws.take (q+1)).map (·.1))=Yaw M4 k0 true ByteArray.empty):=by show _=_;rw [HS4.out,Ydw,if_pos hb]
        go_wp2_with (first
         | (go_at_call 214;have _t:=tok1;go_must (
          refine (Yha k0 wr hk0).mono ?_;rintro e w' ⟨rfl,rfl⟩;clear tok1))
         | (go_at_call 214;go_must (
          refine (Yha key wr hkz).mono ?_;rintro e w' ⟨rfl,rfl⟩))
         | (go_at_call 134;go_must (
          refine (Yk4 w.heap.size _ M4 k0 true ByteArray.empty wr HR4.out (by have:=HML4.out;omega)).mono ?_;rintro e w2 ⟨v2,rfl,ho2,hb2⟩;have HR2:Hid (w2.ownsRow w.heap.size 43 2 v2 (Yaw M4 k0 true ByteArray.empty).length (Yad (Yaw M4 k0 true ByteArray.empty))):=Yfg ho2 (by omega);have HB2:Hid (Below w.heap.size w w2):=HB4.out.trans (hb2.mono (by omega));clear ho2 hb2)))
        exact ⟨⟨q+1,by omega,by simp,by rw [HS2.out];exact HR2.out,HB2.out⟩,by simp [intOf];omega⟩
       ·have hbe:((Yae k0:Int) == (Yae key:Int))=false:=by
         rw [beq_eq_false_iff_ne];intro h;exact hb (by exact_mod_cast h)
        have HS2:Hid (Ybj key M ((ws.take (q+1)).map (·.1))=M4):=by show _=_;rw [HS4.out,Ydw,if_neg hb]
        go_wp2_with (first
         | (go_at_call 214;have _t:=tok1;go_must (
          refine (Yha k0 wr hk0).mono ?_;rintro e w' ⟨rfl,rfl⟩;clear tok1))
         | (go_at_call 214;go_must (
          refine (Yha key wr hkz).mono ?_;rintro e w' ⟨rfl,rfl⟩)))
        exact ⟨⟨q+1,by omega,by simp,by rw [HS2.out];exact HR4.out,HB4.out⟩,by simp [intOf];omega⟩
      ·have hlt4':¬(q:Int)<(ws.length:Int):=by omega
       have hkk:ws.take q=ws:=List.take_of_length_le (by omega);rw [hkk] at HR4 hml;have h1:(ws.map (·.1)).length≤1000:=by rw [List.length_map];omega
       clear hrow hbr4;go_wp2;refine ⟨⟨j+1,by omega,by simp,by rw [HS.out];exact HR4.out,HB4.out,by rw [HS.out];omega⟩,by simp [intOf];omega⟩
    ·have hlt3':¬(j:Int)<(l.length:Int):=by omega
     have hkk:l.take j=l:=List.take_of_length_le (by omega);rw [hkk] at hrow hml3;rw [←HRK.out] at hrow hml3;obtain ⟨M,hM⟩:∃ M,Ybj key [] (Ye8 pairs l)=M:=⟨_,rfl⟩;rw [hM] at hrow hml3;have HM:Hid (Yes pairs l key=((Yag M key).1 || decide (M.length<4))):=by show _=_;simp only [Yes,hM]
     obtain ⟨am,cm,rfl,_⟩:=Ya6 hrow;have HRM:=Yh hrow;clear hM hrow hbr3 hkk HRK;go_wp2_with (first | (go_at_call 136;go_must (
      refine (Yk3 w.heap.size _ M key wr HRM.out).mono ?_;rintro e w5 ⟨rfl,hb5⟩;have HB5:Hid (Below w.heap.size w w5):=HB3.out.trans (hb5.mono (by omega));clear hb5)))
     all_goals
      go_ret;refine ⟨?_,HB5.out.alloc HB5.out.size _⟩;rw [HM.out];have hc:∀ m:Nat,decide ((m:Int)<4)=decide (m<4):=fun m=>by by_cases h:m<4 <;> simp [h] <;> omega
      simp [*]
abbrev Ybs:Type:=Unit⊕Unit⊕Unit⊕Nat⊕Nat⊕Nat
abbrev Ybs.mod:Ybs:=Sum.inl ()
abbrev Ybs.opn:Ybs:=Sum.inr (Sum.inl ())
abbrev Ybs.lg:Ybs:=Sum.inr (Sum.inr (Sum.inl ()))
abbrev Ybs.rd (i:Nat):Ybs:=Sum.inr (Sum.inr (Sum.inr (Sum.inl i)))
abbrev Ybs.wr (i:Nat):Ybs:=Sum.inr (Sum.inr (Sum.inr (Sum.inr (Sum.inl i))))
abbrev Ybs.up (i:Nat):Ybs:=Sum.inr (Sum.inr (Sum.inr (Sum.inr (Sum.inr i))))
theorem Ybs.elim {motive:Ybs→Prop} (mod:motive .mod) (opn:motive .opn) (lg:motive .lg) (rd:∀ i,motive (.rd i)) (wr:∀ i,motive (.wr i)) (up:∀ i,motive (.up i)) (a:Ybs):motive a:=
 match a with
 | Sum.inl ()=>mod
 | Sum.inr (Sum.inl ())=>opn
 | Sum.inr (Sum.inr (Sum.inl ()))=>lg
 | Sum.inr (Sum.inr (Sum.inr (Sum.inl i)))=>rd i
 | Sum.inr (Sum.inr (Sum.inr (Sum.inr (Sum.inl i))))=>wr i
 | Sum.inr (Sum.inr (Sum.inr (Sum.inr (Sum.inr i))))=>up i
def Yai (mb:Nat) (s:Ya4) (l:List (TxV×TxS)):Ybs→Option Nat
 | Sum.inl ()=>some mb
 | Sum.inr (Sum.inl ())=>s.vt.ownBlock
 | Sum.inr (Sum.inr (Sum.inl ()))=>s.vl.ownBlock
 | Sum.inr (Sum.inr (Sum.inr (Sum.inl i)))=>l[i]?.bind fun p=>p.2.vr.ownBlock
 | Sum.inr (Sum.inr (Sum.inr (Sum.inr (Sum.inl i))))=>l[i]?.bind fun p=>p.2.vw.ownBlock
 | Sum.inr (Sum.inr (Sum.inr (Sum.inr (Sum.inr i))))=>l[i]?.bind fun p=>p.2.vu.ownBlock
structure Yaq (w:World) (mb:Nat) (n:Ya0) (s:Ya4) (l:List (TxV×TxS)) (pairs other:Yaf) (log:List Yac):Prop where
 cell:w.heap[mb]? = some (.cells (Yc6 n s) 119 (0,0))
 opn:w.ownsRow 0 200 5 s.vt l.length (Ya2 l)
 txs:∀ p∈l,Yc9 w p
 prs:w.ownsRow 0 43 2 s.vp pairs.length (Yad pairs)
 oth:w.ownsRow 0 43 2 s.vo other.length (Yad other)
 lg:w.ownsRow 0 152 9 s.vl log.length (Ybf log)
 apart:∀ a b k,Yai mb s l a=some k→Yai mb s l b=some k→a=b
 imm:∀ a k,Yai mb s l a=some k→s.vp.ownBlock≠some k∧s.vo.ownBlock≠some k
structure Ya9 (w w':World) (mb:Nat) (s s':Ya4) (l l':List (TxV×TxS)):Prop where
 kept:∀ k,k<w.heap.size→(∀ a,Yai mb s l a≠some k)→w'.heap[k]? = w.heap[k]?
 blks:∀ a k,Yai mb s' l' a=some k→(∃ b,Yai mb s l b=some k)∨w.heap.size≤k
 below:Below 0 w w'
 imm:∀ k,s'.vp.ownBlock=some k∨s'.vo.ownBlock=some k→(s.vp.ownBlock=some k∨s.vo.ownBlock=some k)∨w.heap.size≤k
variable {l:List (TxV×TxS)} {n:Ya0} {s:Ya4}
theorem Yaq.lt (h:Yaq w mb n s l pairs other log):∀ a k,Yai mb s l a=some k→k<w.heap.size:=by
 intro a k hk
 cases a using Ybs.elim with
 | mod=>simp [Yai] at hk;subst hk;exact Yaj h.cell
 | opn=>exact (h.opn.lt k hk).2
 | lg=>exact (h.lg.lt k hk).2
 | rd i=>
  simp only [Yai,Option.bind_eq_some_iff] at hk;obtain ⟨p,hp,hk⟩:=hk;exact ((h.txs p (List.mem_of_getElem? hp)).1.lt k hk).2
 | wr i=>
  simp only [Yai,Option.bind_eq_some_iff] at hk;obtain ⟨p,hp,hk⟩:=hk;exact ((h.txs p (List.mem_of_getElem? hp)).2.1.lt k hk).2
 | up i=>
  simp only [Yai,Option.bind_eq_some_iff] at hk;obtain ⟨p,hp,hk⟩:=hk;exact ((h.txs p (List.mem_of_getElem? hp)).2.2.1.lt k hk).2
theorem Yas {n:Nat} (h:w.ownsRow base e size v n xs) (hk:∀ g,v.ownBlock=some g→w'.heap[g]? = w.heap[g]?):w'.ownsRow base e size v n xs:=by
 refine ⟨h.1,?_⟩;rcases h.2 with h1 | ⟨g,cap,cur,h1,h2,h3,h4⟩
 ·exact .inl h1
 ·refine .inr ⟨g,cap,cur,h1,h2,?_,h4⟩
  rw [hk g (by rw [h1];rfl)];exact h3
theorem Yc9.off {p:TxV×TxS} (h:Yc9 w p) (hk:∀ g,p.2.vr.ownBlock=some g∨p.2.vw.ownBlock=some g∨p.2.vu.ownBlock=some g→w'.heap[g]? = w.heap[g]?):Yc9 w' p:=
 ⟨Yas h.1 (fun g hg=>hk g (.inl hg)),Yas h.2.1 (fun g hg=>hk g (.inr (.inl hg))),Yas h.2.2.1 (fun g hg=>hk g (.inr (.inr hg))),h.2.2.2⟩
theorem Yaq.rest (h:Yaq w mb n s l pairs other log)
 (hk:∀ k,k<w.heap.size→k≠mb→s.vt.ownBlock≠some k→w'.heap[k]? = w.heap[k]?):
 (∀ p∈l,Yc9 w' p)∧w'.ownsRow 0 43 2 s.vp pairs.length (Yad pairs)∧w'.ownsRow 0 43 2 s.vo other.length (Yad other)∧w'.ownsRow 0 152 9 s.vl log.length (Ybf log):=by
 have hlt:=h.lt
 have key:∀ a k,Yai mb s l a=some k→a≠.mod→a≠.opn→w'.heap[k]? = w.heap[k]?:=fun a k hb h1 h2=>
  hk k (hlt a k hb) (fun e=>h1 (h.apart a .mod k hb (by simp [Yai,e]))) (fun e=>h2 (h.apart a .opn k hb e))
 refine ⟨fun p hp=>?_,?_,?_,?_⟩
 ·obtain ⟨i,hi⟩:=List.getElem?_of_mem hp
  refine (h.txs p hp).off fun g hg=>?_
  rcases hg with hg | hg | hg
  ·exact key (.rd i) g (by simp [Yai,hi,hg]) (by simp) (by simp)
  ·exact key (.wr i) g (by simp [Yai,hi,hg]) (by simp) (by simp)
  ·exact key (.up i) g (by simp [Yai,hi,hg]) (by simp) (by simp)
 ·exact Yas h.prs fun g hg=>hk g (h.prs.lt g hg).2 (fun e=>(h.imm .mod mb rfl).1 (by rw [←e];exact hg)) (fun e=>(h.imm .opn g e).1 hg)
 ·exact Yas h.oth fun g hg=>hk g (h.oth.lt g hg).2 (fun e=>(h.imm .mod mb rfl).2 (by rw [←e];exact hg)) (fun e=>(h.imm .opn g e).2 hg)
 ·exact Yas h.lg fun g hg=>key .lg g hg (by simp) (by simp)
theorem Ynb (mb:Nat) (s:Ya4) (l:List (TxV×TxS)) (t:TxV) (a:Ybs):Yai mb s (l ++ [(t,⟨.slice none 0 0,.slice none 0 0,.slice none 0 0⟩)]) a=Yai mb s l a:=by
 have key:∀ (i:Nat) (f:TxV×TxS→Option Nat),f (t,⟨.slice none 0 0,.slice none 0 0,.slice none 0 0⟩)=none→(l ++ [(t,⟨.slice none 0 0,.slice none 0 0,.slice none 0 0⟩)])[i]?.bind f=l[i]?.bind f:=by
  intro i f hf;rcases Nat.lt_trichotomy i l.length with h | h | h
  ·rw [List.getElem?_append_left h]
  ·rw [List.getElem?_append_right (by omega),h,List.getElem?_eq_none (Nat.le_refl _)]
   simp [hf]
  ·rw [List.getElem?_eq_none (by simp;omega),List.getElem?_eq_none (by omega)]
 cases a using Ybs.elim with
 | mod=>rfl
 | opn=>rfl
 | lg=>rfl
 | rd i=>exact key i _ rfl
 | wr i=>exact key i _ rfl
 | up i=>exact key i _ rfl
theorem Yv0 (h:Yaq w mb n s l pairs other log) (vt':Value) (hat:∀ g,vt'.ownBlock=some g→s.vt.ownBlock=some g∨w.heap.size≤g):
 (∀ a b k,Yai mb { s with vt:=vt' } l a=some k→Yai mb { s with vt:=vt' } l b=some k→a=b)∧(∀ a k,Yai mb { s with vt:=vt' } l a=some k→s.vp.ownBlock≠some k∧s.vo.ownBlock≠some k) ∧
  (∀ a k,Yai mb { s with vt:=vt' } l a=some k→(∃ b,Yai mb s l b=some k)∨w.heap.size≤k):=by
 have old:∀ a k,a≠.opn→Yai mb { s with vt:=vt' } l a=some k→Yai mb s l a=some k:=by
  intro a k ha hk
  cases a using Ybs.elim <;> first | exact hk | exact absurd rfl ha
 have new:∀ k,Yai mb { s with vt:=vt' } l .opn=some k→Yai mb s l .opn=some k∨w.heap.size≤k:=fun k hk=>hat k hk
 refine ⟨fun a b k ha hb=>?_,fun a k ha=>?_,fun a k ha=>?_⟩
 ·by_cases h1:a=.opn
  ·by_cases h2:b=.opn
   ·rw [h1,h2]
   ·subst h1
    have hb':=old b k h2 hb;rcases new k ha with h3 | h3
    ·exact h.apart _ _ k h3 hb'
    ·have:=h.lt b k hb';omega
  ·have ha':=old a k h1 ha
   by_cases h2:b=.opn
   ·subst h2
    rcases new k hb with h3 | h3
    ·exact h.apart _ _ k ha' h3
    ·have:=h.lt a k ha';omega
   ·exact h.apart _ _ k ha' (old b k h2 hb)
 ·by_cases h1:a=.opn
  ·subst h1
   rcases new k ha with h3 | h3
   ·exact h.imm _ k h3
   ·exact ⟨fun e=>by have:=(h.prs.lt k e).2;omega,fun e=>by have:=(h.oth.lt k e).2;omega⟩
  ·exact h.imm a k (old a k h1 ha)
 ·by_cases h1:a=.opn
  ·subst h1
   rcases new k ha with h3 | h3
   ·exact .inl ⟨_,h3⟩
   ·exact .inr h3
  ·exact .inl ⟨a,old a k h1 ha⟩
theorem Yqd:(prog.info? 200).map (fun i=>(i.zero,i.size,i.bytes))=some (some (.agg #[.int .i64 0,.int .i64 0,.slice none 0 0,.slice none 0 0,.slice none 0 0]),5,88):=by kernel_rfl
theorem Yv1 (mb:Nat) (n:Ya0) (vp vo vl vt:Value) (l:List (TxV×TxS)) (pairs other:Yaf) (log:List Yac) (w w2 W1:World) (O:Obj) (g c2:Nat) (h:Yaq w mb n ⟨vp,vo,vt,vl⟩ l pairs other log) (hvm:vt.ownBlock≠some mb)
 (hk2:∀ k,k<w.heap.size→k≠mb→vt.ownBlock≠some k→w2.heap[k]? = w.heap[k]?)
 (hm2:w2.heap[mb]? = some (.cells (Yc6 { n with given:=n.given+1,actions:=n.actions+1 } ⟨vp,vo,vt,vl⟩) 119 (0,0)))
 (ho2:w2.ownsRow 0 200 5 (.slice (some ⟨g,0,none⟩) (l.length+1) c2) (l.length+1) (Ya2 l ++ [.int .i64 (n.given+1),.int .i64 0,.slice none 0 0,.slice none 0 0,.slice none 0 0]))
 (hat:vt.ownBlock=some g∨g=W1.heap.size+1) (hz1:W1.heap.size=w.heap.size) (hb1:Below 0 w W1) (hg2:(W1.alloc O).drew.grownBy w2 vt.ownBlock):
 Yaq (w2.setCell ⟨mb,5,none⟩ (.slice (some ⟨g,0,none⟩) (l.length+1) c2)) mb { n with given:=n.given+1,actions:=n.actions+1 } ⟨vp,vo,.slice (some ⟨g,0,none⟩) (l.length+1) c2,vl⟩ (l ++ [({ id:=n.given+1,last:=0,read:=[],writes:=[],updates:=[] },{ vr:=.slice none 0 0,vw:=.slice none 0 0,vu:=.slice none 0 0 })]) pairs other log ∧
  Ya9 w (w2.setCell ⟨mb,5,none⟩ (.slice (some ⟨g,0,none⟩) (l.length+1) c2)) mb ⟨vp,vo,vt,vl⟩ ⟨vp,vo,.slice (some ⟨g,0,none⟩) (l.length+1) c2,vl⟩ l (l ++ [({ id:=n.given+1,last:=0,read:=[],writes:=[],updates:=[] },{ vr:=.slice none 0 0,vw:=.slice none 0 0,vu:=.slice none 0 0 })]):=by
 have hmw:=h.lt .mod mb rfl
 have hgm:g≠mb:=by
  rcases hat with hat | hat
  ·exact fun e=>hvm (by rw [hat,e])
  ·omega
 have hk3:∀ k,k<w.heap.size→k≠mb→vt.ownBlock≠some k→(w2.setCell ⟨mb,5,none⟩ (.slice (some ⟨g,0,none⟩) (l.length+1) c2)).heap[k]? = w.heap[k]?:=fun k h1 h2 h3=>
  (Below.heap_setCell _ _ _ _ h2).trans (hk2 k h1 h2 h3)
 obtain ⟨r1,r2,r3,r4⟩:=h.rest hk3
 obtain ⟨b1,b2,b3⟩:=Yv0 h (.slice (some ⟨g,0,none⟩) (l.length+1) c2) (fun g' hg'=>by
  simp [Value.ownBlock] at hg';subst hg';rcases hat with hat | hat
  ·exact .inl hat
  ·exact .inr (by omega))
 refine ⟨⟨?_,?_,?_,r2,r3,r4,?_,?_⟩,⟨?_,?_,?_,fun _ h=>.inl h⟩⟩
 ·exact (Yak _ _ 5 _ _ _ hm2).trans rfl
 ·have hc:Ya2 (l ++ [({ id:=n.given+1,last:=0,read:=[],writes:=[],updates:=[] },{ vr:=.slice none 0 0,vw:=.slice none 0 0,vu:=.slice none 0 0 })])=Ya2 l ++ [.int .i64 (n.given+1),.int .i64 0,.slice none 0 0,.slice none 0 0,.slice none 0 0]:=by simp [Ya2,Ye5]
  rw [hc,List.length_append];exact Yas ho2 (fun g' hg'=>Below.heap_setCell _ _ _ _ (show g'≠mb by simp [Value.ownBlock] at hg';omega))
 ·intro p hp
  rcases List.mem_append.1 hp with hp | hp
  ·exact r1 p hp
  ·simp at hp
   subst hp;exact ⟨World.ownsRow_nil _ _ _ _,World.ownsRow_nil _ _ _ _,World.ownsRow_nil _ _ _ _,by simp,by simp,by simp⟩
 ·intro a b k ha hb
  rw [Ynb] at ha hb;exact b1 a b k ha hb
 ·intro a k ha
  rw [Ynb] at ha;exact b2 a k ha
 ·intro k hk hno
  refine hk3 k hk (fun e=>hno .mod (by simp [Yai,e])) (fun e=>hno .opn e)
 ·intro a k ha
  rw [Ynb] at ha;exact b3 a k ha
 ·have hs:=hg2.size
  have:Below 0 w w2:=⟨hg2.os.trans hb1.os,hg2.tape.trans hb1.tape,hg2.output.trans hb1.output,by simp at hs;omega,fun k hk=>by omega⟩;exact this.setCell (p:=⟨mb,5,none⟩) (by simp) _
theorem Yv2 (mb:Nat) (n:Ya0) (s:Ya4) (l:List (TxV×TxS)) (pairs other:Yaf) (log:List Yac) (w:World) (h:Yaq w mb n s l pairs other log) (hd:n.dead=false) (hl:l.length<4) (ha:n.actions<120) (ha0:0≤n.actions) (hg0:0≤n.given) (hg:n.given≤1000):
 Calls prog 93 #[.pointer (some ⟨mb,0,none⟩)] w fun e w'=>e=.returned (.tuple #[.int .i64 (n.given+1),.int .i64 0]) ∧
  ∃ vt',Yaq w' mb { n with given:=n.given+1,actions:=n.actions+1 } { s with vt:=vt' } (l ++ [({ id:=n.given+1,last:=0,read:=[],writes:=[],updates:=[] },{ vr:=.slice none 0 0,vw:=.slice none 0 0,vu:=.slice none 0 0 })]) pairs other log ∧
   Ya9 w w' mb s { s with vt:=vt' } l (l ++ [({ id:=n.given+1,last:=0,read:=[],writes:=[],updates:=[] },{ vr:=.slice none 0 0,vw:=.slice none 0 0,vu:=.slice none 0 0 })]):=by
 obtain ⟨vp,vo,vt,vl⟩:=s
 obtain ⟨ad,cap,hvt,_⟩:=Ya6 h.opn
 simp only at hvt
 subst hvt
 have c1:w.cell? ⟨mb,1,none⟩=some (.bool false):=Yaa h.cell (by rw [←hd];rfl)
 have c5:w.cell? ⟨mb,5,none⟩=some (.slice ad l.length cap):=Yaa h.cell rfl
 have c6:w.cell? ⟨mb,6,none⟩=some (.int .i64 n.given):=Yaa h.cell rfl
 have c7:w.cell? ⟨mb,7,none⟩=some (.int .i64 n.actions):=Yaa h.cell rfl
 have f5:=Yah 5 h.cell
 have f6:=Yah 6 h.cell
 have f7:=Yah 7 h.cell
 have hl':¬(4:Int)≤(l.length:Int):=by omega
 have ha':¬(120:Int)≤n.actions:=by omega
 have HH:=Yh h
 clear h
 go_enter func93,ntmps93
 go_wp2
 obtain ⟨W1,hW1⟩:∃ W1,W1=(w.setCell ⟨mb,7,none⟩ (.int .i64 (n.actions+1))).setCell ⟨mb,6,none⟩ (.int .i64 (n.given+1)):=⟨_,rfl⟩
 rw [←hW1]
 have hm1:W1.heap[mb]? = some (.cells (Yc6 { n with given:=n.given+1,actions:=n.actions+1 } ⟨vp,vo,.slice ad l.length cap,vl⟩) 119 (0,0)):=by
  rw [hW1];exact (Yak _ _ 6 _ _ _ (Yak _ _ 7 _ _ _ HH.out.cell)).trans rfl
 have ho1:∀ k,k≠mb→W1.heap[k]? = w.heap[k]?:=fun k hk=>by
  rw [hW1];exact (Below.heap_setCell _ _ _ _ hk).trans (Below.heap_setCell _ _ _ _ hk)
 have hb1:Below 0 w W1:=by rw [hW1];exact ((Below.refl _ _).setCell (p:=⟨mb,7,none⟩) (by simp) _).setCell (p:=⟨mb,6,none⟩) (by simp) _
 have hz1:W1.heap.size=w.heap.size:=by rw [hW1];simp
 have hvm:(Value.slice ad l.length cap).ownBlock≠some mb:=fun h=>by
  have:=HH.out.apart .opn .mod mb h rfl
  cases this
 have hoW:W1.ownsRow 0 200 5 (.slice ad l.length cap) l.length (Ya2 l):=Yas HH.out.opn (fun g hg=>ho1 g (fun e=>hvm (by rw [←e];exact hg)))
 have d5:W1.cell? ⟨mb,5,none⟩=some (.slice ad l.length cap):=Yaa hm1 rfl
 have d6:W1.cell? ⟨mb,6,none⟩=some (.int .i64 (n.given+1)):=Yaa hm1 rfl
 have g5:=Yah 5 hm1
 have hmw:mb<W1.heap.size:=Yaj hm1
 have HM1:=Yh hm1
 have HO1:=Yh ho1
 have HB1:=Yh hb1
 have HZ1:=Yh hz1
 have HOW:=Yh hoW
 obtain ⟨i0,hi0,hx0,hx1,hx2⟩:=info_parts Yqd
 clear hW1 hm1 ho1 hb1 hz1 hoW c1 c5 c6 c7 f5 f6 f7
 go_region_law (first
  | (
   refine step_append_lies _ ?hgd (.tmp 40) (.tmp 46) 117 ?hop 0 200 i0 _ 5 88 underlying117 hi0 hx0 hx1 hx2 rfl (by omega) (.slice ad l.length cap) l.length (Ya2 l) ?hs (World.ownsRow.alloc (w:=W1.drew) HOW.out _) ⟨W1.heap.size,0,none⟩ 1 1 [.int .i64 (n.given+1),.int .i64 0,.slice none 0 0,.slice none 0 0,.slice none 0 0] ?hx rfl ?hnews ?h1 (by omega) (by unfold maxLen;omega) (by omega) (by omega) (W1.heap.size+1) ?hH ?_
   case hgd=>rfl
   case hop=>rfl
   case hs=>go_simp
   case hx=>go_simp
   case hnews=>intro j u hu;rw [Ydg];exact Yaa (heap_alloc_new W1.drew _) (by simpa using hu)
   case h1=>intro u hu;simp at hu;rcases hu with rfl | rfl | rfl <;> rfl
   case hH=>simp
   intro g c2 w2 ho2 hg2 hat hlt2;have hk2:∀ k,k<w.heap.size→k≠mb→(Value.slice ad l.length cap).ownBlock≠some k→w2.heap[k]? = w.heap[k]?:=fun k h1 h2 h3=>by
    have hz:=HZ1.out;exact (hg2.block k (by simp;omega) (fun e=>h3 e.symm)).trans ((Below.heap_alloc W1 _ k (by omega)).trans (HO1.out k h2))
   have hm2:=(hg2.block mb (by simp;omega) (fun e=>hvm e.symm)).trans ((Below.heap_alloc W1 _ mb hmw).trans HM1.out);have HFIN:Hid (Yaq (w2.setCell ⟨mb,5,none⟩ (.slice (some ⟨g,0,none⟩) (l.length+1) c2)) mb { n with given:=n.given+1,actions:=n.actions+1 } ⟨vp,vo,.slice (some ⟨g,0,none⟩) (l.length+1) c2,vl⟩ (l ++ [({ id:=n.given+1,last:=0,read:=[],writes:=[],updates:=[] },{ vr:=.slice none 0 0,vw:=.slice none 0 0,vu:=.slice none 0 0 })]) pairs other log ∧
    Ya9 w (w2.setCell ⟨mb,5,none⟩ (.slice (some ⟨g,0,none⟩) (l.length+1) c2)) mb ⟨vp,vo,.slice ad l.length cap,vl⟩ ⟨vp,vo,.slice (some ⟨g,0,none⟩) (l.length+1) c2,vl⟩ l (l ++ [({ id:=n.given+1,last:=0,read:=[],writes:=[],updates:=[] },{ vr:=.slice none 0 0,vw:=.slice none 0 0,vu:=.slice none 0 0 })])):=
    Yv1 mb n vp vo vl (.slice ad l.length cap) l pairs other log w w2 W1 _ g c2 HH.out hvm hk2 hm2 ho2 hat HZ1.out HB1.out hg2
   have e5:w2.cell? ⟨mb,5,none⟩=some (.slice ad l.length cap):=Yaa hm2 rfl;have e6:w2.cell? ⟨mb,6,none⟩=some (.int .i64 (n.given+1)):=Yaa hm2 rfl;have k5:=Yah 5 hm2;clear ho2 hg2 hat hlt2 hk2 hm2))
 all_goals
  go_wp2;go_ret2;exact ⟨rfl,_,HFIN.out⟩
def Yfi (n:Ya0) (len:Nat):Int:=if n.dead then 3 else if 4≤len then 9 else if 120≤n.actions then 10 else 0
theorem Yv3 (mb:Nat) (n:Ya0) (s:Ya4) (l:List (TxV×TxS)) (pairs other:Yaf) (log:List Yac) (w:World) (h:Yaq w mb n s l pairs other log) (he:Yfi n l.length≠0):
 Calls prog 93 #[.pointer (some ⟨mb,0,none⟩)] w fun e w'=>e=.returned (.tuple #[.int .i64 0,.int .i64 (Yfi n l.length)])∧w=w':=by
 obtain ⟨vp,vo,vt,vl⟩:=s
 obtain ⟨ad,cap,hvt,_⟩:=Ya6 h.opn
 simp only at hvt
 subst hvt
 have c1:w.cell? ⟨mb,1,none⟩=some (.bool n.dead):=Yaa h.cell rfl
 have c5:w.cell? ⟨mb,5,none⟩=some (.slice ad l.length cap):=Yaa h.cell rfl
 have c7:w.cell? ⟨mb,7,none⟩=some (.int .i64 n.actions):=Yaa h.cell rfl
 clear h
 cases hd:n.dead with
 | true=>
  rw [hd] at c1;have HE:Hid (Yfi n l.length=3):=by show _=_;simp [Yfi,hd]
  clear he;go_enter func93,ntmps93;go_wp2;go_ret2;exact ⟨by rw [HE.out];rfl,rfl⟩
 | false=>
  rw [hd] at c1;by_cases h4:4≤l.length
  ·have h4':(4:Int)≤(l.length:Int):=by omega
   have HE:Hid (Yfi n l.length=9):=by show _=_;simp [Yfi,hd,h4]
   clear he;go_enter func93,ntmps93;go_wp2;go_ret2;exact ⟨by rw [HE.out];rfl,rfl⟩
  ·have h4':¬(4:Int)≤(l.length:Int):=by omega
   by_cases ha:120≤n.actions
   ·have HE:Hid (Yfi n l.length=10):=by show _=_;simp [Yfi,hd,h4,ha]
    clear he;go_enter func93,ntmps93;go_wp2;go_ret2;exact ⟨by rw [HE.out];rfl,rfl⟩
   ·exact absurd (by simp [Yfi,hd,h4,ha]) he
theorem Ync (h:Yaq w mb n s l pairs other log) (i:Nat) (p p':TxV×TxS) (hi:l[i]? = some p)
 (hr:∀ g,p'.2.vr.ownBlock=some g→p.2.vr.ownBlock=some g∨w.heap.size≤g∧p'.2.vw.ownBlock≠some g∧p'.2.vu.ownBlock≠some g)
 (hw:∀ g,p'.2.vw.ownBlock=some g→p.2.vw.ownBlock=some g∨w.heap.size≤g∧p'.2.vr.ownBlock≠some g∧p'.2.vu.ownBlock≠some g)
 (hu:∀ g,p'.2.vu.ownBlock=some g→p.2.vu.ownBlock=some g∨w.heap.size≤g∧p'.2.vr.ownBlock≠some g∧p'.2.vw.ownBlock≠some g):
 (∀ a b k,Yai mb s (l.set i p') a=some k→Yai mb s (l.set i p') b=some k→a=b)∧(∀ a k,Yai mb s (l.set i p') a=some k→s.vp.ownBlock≠some k∧s.vo.ownBlock≠some k) ∧
  (∀ a k,Yai mb s (l.set i p') a=some k→(∃ b,Yai mb s l b=some k)∨w.heap.size≤k):=by
 have hil:i<l.length:=(List.getElem?_eq_some_iff.1 hi).1
 have key:∀ a k,Yai mb s (l.set i p') a=some k→Yai mb s l a=some k∨(w.heap.size≤k∧∀ b,Yai mb s (l.set i p') b=some k→a=b):=by
  intro a k ha;have gets:∀ j,(l.set i p')[j]? = if j=i then some p' else l[j]?:=fun j=>by
   by_cases hj:j=i
   ·subst hj;simp [hil]
   ·rw [if_neg hj,List.getElem?_set_ne (fun e=>hj e.symm)]
  have old:∀ b,Yai mb s (l.set i p') b=some k→w.heap.size≤k→b=.rd i∨b=.wr i∨b=.up i:=by
   intro b hb hk
   cases b using Ybs.elim with
   | mod=>have:=h.lt .mod k hb;omega
   | opn=>have:=h.lt .opn k hb;omega
   | lg=>have:=h.lt .lg k hb;omega
   | rd j=>
    by_cases hj:j=i
    ·subst hj;exact .inl rfl
    ·have hb':Yai mb s l (.rd j)=some k:=by simpa [Yai,gets,hj] using hb
     have:=h.lt _ k hb';omega
   | wr j=>
    by_cases hj:j=i
    ·subst hj;exact .inr (.inl rfl)
    ·have hb':Yai mb s l (.wr j)=some k:=by simpa [Yai,gets,hj] using hb
     have:=h.lt _ k hb';omega
   | up j=>
    by_cases hj:j=i
    ·subst hj;exact .inr (.inr rfl)
    ·have hb':Yai mb s l (.up j)=some k:=by simpa [Yai,gets,hj] using hb
     have:=h.lt _ k hb';omega
  have er:Yai mb s (l.set i p') (.rd i)=p'.2.vr.ownBlock:=by simp [Yai,gets]
  have ew:Yai mb s (l.set i p') (.wr i)=p'.2.vw.ownBlock:=by simp [Yai,gets]
  have eu:Yai mb s (l.set i p') (.up i)=p'.2.vu.ownBlock:=by simp [Yai,gets]
  cases a using Ybs.elim with
  | mod=>exact .inl ha
  | opn=>exact .inl ha
  | lg=>exact .inl ha
  | rd j=>
   by_cases hj:j=i
   ·subst hj
    rw [er] at ha;rcases hr k ha with h1 | ⟨h1,h2,h3⟩
    ·exact .inl (by simp [Yai,hi,h1])
    ·refine .inr ⟨h1,fun b hb=>?_⟩
     rcases old b hb h1 with rfl | rfl | rfl
     ·rfl
     ·rw [ew] at hb;exact absurd hb h2
     ·rw [eu] at hb;exact absurd hb h3
   ·exact .inl (by simpa [Yai,gets,hj] using ha)
  | wr j=>
   by_cases hj:j=i
   ·subst hj
    rw [ew] at ha;rcases hw k ha with h1 | ⟨h1,h2,h3⟩
    ·exact .inl (by simp [Yai,hi,h1])
    ·refine .inr ⟨h1,fun b hb=>?_⟩
     rcases old b hb h1 with rfl | rfl | rfl
     ·rw [er] at hb;exact absurd hb h2
     ·rfl
     ·rw [eu] at hb;exact absurd hb h3
   ·exact .inl (by simpa [Yai,gets,hj] using ha)
  | up j=>
   by_cases hj:j=i
   ·subst hj
    rw [eu] at ha;rcases hu k ha with h1 | ⟨h1,h2,h3⟩
    ·exact .inl (by simp [Yai,hi,h1])
    ·refine .inr ⟨h1,fun b hb=>?_⟩
     rcases old b hb h1 with rfl | rfl | rfl
     ·rw [er] at hb;exact absurd hb h2
     ·rw [ew] at hb;exact absurd hb h3
     ·rfl
   ·exact .inl (by simpa [Yai,gets,hj] using ha)
 refine ⟨fun a b k ha hb=>?_,fun a k ha=>?_,fun a k ha=>?_⟩
 ·rcases key a k ha with h1 | ⟨h1,h2⟩
  ·rcases key b k hb with h3 | ⟨h3,h4⟩
   ·exact h.apart a b k h1 h3
   ·exact (h4 a ha).symm
  ·exact h2 b hb
 ·rcases key a k ha with h1 | ⟨h1,_⟩
  ·exact h.imm a k h1
  ·exact ⟨fun e=>by have:=(h.prs.lt k e).2;omega,fun e=>by have:=(h.oth.lt k e).2;omega⟩
 ·rcases key a k ha with h1 | ⟨h1,_⟩
  ·exact .inl ⟨a,h1⟩
  ·exact .inr h1
theorem Ydx {g n cap:Nat} (h:w.ownsRow base e size (.slice (some ⟨g,0,none⟩) n cap) n xs) (j:Nat) (u:Value):
 (w.setCell ⟨g,j,none⟩ u).ownsRow base e size (.slice (some ⟨g,0,none⟩) n cap) n (xs.set j u):=by
 rcases h.2 with ⟨h1,_⟩ | ⟨g',cap',cur,h1,h2,h3,h4,h5,h6,h7⟩
 ·cases h1
 ·simp at h1
  obtain ⟨rfl,rfl⟩:=h1;refine ⟨by simpa using h.1,.inr ⟨g,cap,_,rfl,h2,Yak w g j u cur e h3,h4,h5,by simpa using h6,?_⟩⟩;rw [Array.toList_setIfInBounds,←h7,List.take_set]
theorem Ylb:∀ (l:List (TxV×TxS)) (i:Nat) (p p':TxV×TxS) (j:Nat) (u:Value),l[i]? = some p→(Ye5 p).set j u=Ye5 p'→j<5→(Ya2 l).set (i*5+j) u=Ya2 (l.set i p')
 | [],i,p,p',j,u,h,_,_=>by simp at h
 | q :: r,0,p,p',j,u,h,hs,hj=>by
  simp at h;subst h;have hl:(Ye5 q).length=5:=rfl;simp only [Ya2,List.flatMap_cons,List.set_cons_zero,Nat.zero_mul,Nat.zero_add];rw [List.set_append_left _ _ (by omega),hs]
 | q :: r,i+1,p,p',j,u,h,hs,hj=>by
  have ih:=Ylb r i p p' j u (by simpa using h) hs hj;have hl:(Ye5 q).length=5:=rfl;simp only [Ya2,List.flatMap_cons,List.set_cons_succ] at ih ⊢;rw [List.set_append_right _ _ (by omega),hl,show (i+1)*5+j - 5=i*5+j by omega,ih]
theorem Yaq.below (h:Yaq w mb n s l pairs other log) (hb:Below w.heap.size w w'):Yaq w' mb n s l pairs other log:=
 ⟨(hb.block mb (h.lt .mod mb rfl)).trans h.cell,Ybe h.opn hb (fun g hg=>(h.opn.lt g hg).2),fun p hp=>(h.txs p hp).below hb (Nat.le_refl _),Ybe h.prs hb (fun g hg=>(h.prs.lt g hg).2),Ybe h.oth hb (fun g hg=>(h.oth.lt g hg).2),Ybe h.lg hb (fun g hg=>(h.lg.lt g hg).2),h.apart,h.imm⟩
theorem Yv4:(prog.info? 9).map (fun i=>(i.zero,i.size,i.bytes))=some (some (.string ByteArray.empty),1,16):=by kernel_rfl
theorem Yaq.rest1 (h:Yaq w mb n s l pairs other log) (c:Ybs)
 (hk:∀ k,k<w.heap.size→Yai mb s l .opn≠some k→Yai mb s l c≠some k→w'.heap[k]? = w.heap[k]?):
 (∀ a k,a≠.opn→a≠c→Yai mb s l a=some k→w'.heap[k]? = w.heap[k]?)∧w'.ownsRow 0 43 2 s.vp pairs.length (Yad pairs)∧w'.ownsRow 0 43 2 s.vo other.length (Yad other):=by
 refine ⟨fun a k h1 h2 hb=>hk k (h.lt a k hb) (fun e=>h1 (h.apart a .opn k hb e)) (fun e=>h2 (h.apart a c k hb e)),?_,?_⟩
 ·exact Yas h.prs fun g hg=>hk g (h.prs.lt g hg).2 (fun e=>(h.imm _ g e).1 hg) (fun e=>(h.imm _ g e).1 hg)
 ·exact Yas h.oth fun g hg=>hk g (h.oth.lt g hg).2 (fun e=>(h.imm _ g e).2 hg) (fun e=>(h.imm _ g e).2 hg)
theorem Yaq.off (h:Yaq w mb n s l pairs other log) (hk:∀ k,k<w.heap.size→(∃ a,Yai mb s l a=some k)∨s.vp.ownBlock=some k∨s.vo.ownBlock=some k→w'.heap[k]? = w.heap[k]?):Yaq w' mb n s l pairs other log:=by
 have key:∀ a k,Yai mb s l a=some k→w'.heap[k]? = w.heap[k]?:=fun a k hb=>hk k (h.lt a k hb) (.inl ⟨a,hb⟩)
 refine ⟨(key .mod mb rfl).trans h.cell,Yas h.opn (fun k hb=>key .opn k hb),fun p hp=>?_,Yas h.prs (fun k hb=>hk k (h.prs.lt k hb).2 (.inr (.inl hb))),Yas h.oth (fun k hb=>hk k (h.oth.lt k hb).2 (.inr (.inr hb))),Yas h.lg (fun k hb=>key .lg k hb),h.apart,h.imm⟩;obtain ⟨i,hi⟩:=List.getElem?_of_mem hp;refine (h.txs p hp).off fun k hb=>?_
 rcases hb with hb | hb | hb
 ·exact key (.rd i) k (by simp [Yai,hi,hb])
 ·exact key (.wr i) k (by simp [Yai,hi,hb])
 ·exact key (.up i) k (by simp [Yai,hi,hb])
variable {l':List (TxV×TxS)}
theorem Ya9.wide {w2 w3:World} {s':Ya4} (hb:Below w.heap.size w w1) (h:Ya9 w1 w2 mb s s' l l') (hk:∀ k,k<w.heap.size→w3.heap[k]? = w2.heap[k]?) (hb3:Below 0 w2 w3):Ya9 w w3 mb s s' l l':=
 ⟨fun k h1 h2=>(hk k h1).trans ((h.kept k (by have:=hb.size;omega) h2).trans (hb.block k h1)),fun a k ha=>(h.blks a k ha).imp id (fun h1=>by have:=hb.size;omega),(hb.mono (Nat.zero_le _)).trans (h.below.trans hb3),fun k hk=>(h.imm k hk).imp id (fun h1=>by have:=hb.size;omega)⟩
theorem Yv5 {W3 w5:World} (h0:Yaq w mb n s l pairs other log) (hb1:Below w.heap.size w w1) (hw1:w.heap.size<w1.heap.size) (hm:Yaq W3 mb n s l' pairs other log) (hst:Ya9 w1 W3 mb s s l l') (hb5:Below W3.heap.size W3 w5) (u0 u1:Value):
 Yaq ((w5.setCell ⟨w.heap.size,0,none⟩ u0).setCell ⟨w.heap.size,1,none⟩ u1) mb n s l' pairs other log∧Ya9 w ((w5.setCell ⟨w.heap.size,0,none⟩ u0).setCell ⟨w.heap.size,1,none⟩ u1) mb s s l l':=by
 have hk:∀ k,k≠w.heap.size→((w5.setCell ⟨w.heap.size,0,none⟩ u0).setCell ⟨w.heap.size,1,none⟩ u1).heap[k]? = w5.heap[k]?:=fun k h=>
  (Below.heap_setCell _ _ _ _ h).trans (Below.heap_setCell _ _ _ _ h)
 have hbf:Below 0 w5 ((w5.setCell ⟨w.heap.size,0,none⟩ u0).setCell ⟨w.heap.size,1,none⟩ u1):=((Below.refl _ _).setCell (p:=⟨w.heap.size,0,none⟩) (by simp) _).setCell (p:=⟨w.heap.size,1,none⟩) (by simp) _
 have hs3:=hst.below.size
 refine ⟨hm.off fun k hlt hor=>?_,hst.wide hb1 (fun k hlt=>?_) ((hb5.mono (Nat.zero_le _)).trans hbf)⟩
 ·refine (hk k ?_).trans (hb5.block k hlt)
  rcases hor with ⟨a,ha⟩ | h | h
  ·intro e
   subst e;rcases hst.blks a _ ha with ⟨b,hb⟩ | h
   ·have:=h0.lt b _ hb;omega
   ·omega
  ·intro e;subst e;have:=(h0.prs.lt _ h).2;omega
  ·intro e;subst e;have:=(h0.oth.lt _ h).2;omega
 ·exact (hk k (by omega)).trans (hb5.block k (by omega))
theorem Yv6 (mb:Nat) (n:Ya0) (s:Ya4) (l:List (TxV×TxS)) (pairs other:Yaf) (log:List Yac) (i:Nat) (p:TxV×TxS) (key:ByteArray) (w1 w2:World) (O:Obj) (g cap g2 c2:Nat) (h:Yaq w1 mb n s l pairs other log) (hi:l[i]? = some p) (hvt:s.vt=.slice (some ⟨g,0,none⟩) l.length cap) (hrl:p.1.read.length≤1999999999999)
 (ho2:w2.ownsRow 0 9 1 (.slice (some ⟨g2,0,none⟩) (p.1.read.length+1) c2) (p.1.read.length+1) (p.1.read.map Value.string ++ [.string key]))
 (hg2:(w1.alloc O).drew.grownBy w2 p.2.vr.ownBlock) (hat:p.2.vr.ownBlock=some g2∨g2=w1.heap.size+1):
 Yaq (w2.setCell ⟨g,i*5+2,none⟩ (.slice (some ⟨g2,0,none⟩) (p.1.read.length+1) c2)) mb n s (l.set i ({ p.1 with read:=p.1.read ++ [key] },{ p.2 with vr:=.slice (some ⟨g2,0,none⟩) (p.1.read.length+1) c2 })) pairs other log ∧
  Ya9 w1 (w2.setCell ⟨g,i*5+2,none⟩ (.slice (some ⟨g2,0,none⟩) (p.1.read.length+1) c2)) mb s s l (l.set i ({ p.1 with read:=p.1.read ++ [key] },{ p.2 with vr:=.slice (some ⟨g2,0,none⟩) (p.1.read.length+1) c2 })):=by
 have hil:i<l.length:=(List.getElem?_eq_some_iff.1 hi).1
 have hog:Yai mb s l .opn=some g:=by simp [Yai,hvt,Value.ownBlock]
 have hgw:=h.lt _ _ hog
 have hrd:∀ k,p.2.vr.ownBlock=some k→Yai mb s l (.rd i)=some k:=fun k hk=>by simp [Yai,hi,hk]
 have hgr:p.2.vr.ownBlock≠some g:=fun e=>by have:=h.apart _ _ _ (hrd g e) hog;cases this
 have hg2g:g2≠g:=by
  rcases hat with hat | hat
  ·exact fun e=>hgr (by rw [hat,e])
  ·omega
 have hk2:∀ k,k<w1.heap.size→p.2.vr.ownBlock≠some k→w2.heap[k]? = w1.heap[k]?:=fun k h1 h2=>
  (hg2.block k (by simp;omega) (fun e=>h2 e.symm)).trans (Below.heap_alloc w1 _ k h1)
 have hk3:∀ k,k<w1.heap.size→k≠g→p.2.vr.ownBlock≠some k→(w2.setCell ⟨g,i*5+2,none⟩ (.slice (some ⟨g2,0,none⟩) (p.1.read.length+1) c2)).heap[k]? = w1.heap[k]?:=fun k h1 h2 h3=>
  (Below.heap_setCell _ _ _ _ h2).trans (hk2 k h1 h3)
 obtain ⟨r1,r2,r3⟩:=h.rest1 (w':=w2.setCell ⟨g,i*5+2,none⟩ (.slice (some ⟨g2,0,none⟩) (p.1.read.length+1) c2)) (.rd i) (fun k h1 h2 h3=>hk3 k h1 (fun e=>h2 (by rw [e];exact hog)) (fun e=>h3 (hrd k e)))
 have tw:Yc9 w1 p:=h.txs p (List.mem_of_getElem? hi)
 obtain ⟨b1,b2,b3⟩:=Ync h i p ({ p.1 with read:=p.1.read ++ [key] },{ p.2 with vr:=.slice (some ⟨g2,0,none⟩) (p.1.read.length+1) c2 }) hi
  (fun k hk=>by
   simp [Value.ownBlock] at hk;subst hk;rcases hat with hat | hat
   ·exact .inl hat
   ·exact .inr ⟨by omega,fun e=>by have:=(tw.2.1.lt _ e).2;omega,fun e=>by have:=(tw.2.2.1.lt _ e).2;omega⟩)
  (fun k hk=>.inl hk) (fun k hk=>.inl hk)
 refine ⟨⟨?_,?_,?_,r2,r3,?_,b1,b2⟩,⟨?_,b3,?_,fun _ h=>.inl h⟩⟩
 ·exact (r1 .mod mb (by simp) (by simp) rfl).trans h.cell
 ·have hop:=h.opn
  rw [hvt] at hop ⊢;have hop2:=Yas (w':=w2) hop (fun k hk=>by
   simp [Value.ownBlock] at hk;subst hk;exact hk2 g hgw hgr)
  have:=Ydx hop2 (i*5+2) (.slice (some ⟨g2,0,none⟩) (p.1.read.length+1) c2);rw [Ylb l i p ({ p.1 with read:=p.1.read ++ [key] },{ p.2 with vr:=.slice (some ⟨g2,0,none⟩) (p.1.read.length+1) c2 }) 2 _ hi rfl (by omega)] at this;rw [List.length_set];exact this
 ·intro q hq
  obtain ⟨j,hj⟩:=List.getElem?_of_mem hq;by_cases hji:j=i
  ·subst hji
   rw [List.getElem?_set_self hil] at hj;simp at hj;subst hj;refine ⟨?_,Yas tw.2.1 (fun k hk=>r1 (.wr j) k (by simp) (by simp) (by simp [Yai,hi,hk])),Yas tw.2.2.1 (fun k hk=>r1 (.up j) k (by simp) (by simp) (by simp [Yai,hi,hk])),by simp;omega,tw.2.2.2.2.1,tw.2.2.2.2.2⟩;have:=Yas (w':=w2.setCell ⟨g,j*5+2,none⟩ (.slice (some ⟨g2,0,none⟩) (p.1.read.length+1) c2)) ho2 (fun k hk=>Below.heap_setCell _ _ _ _ (by
    simp [Value.ownBlock] at hk;subst hk;exact hg2g))
   simpa using this
  ·rw [List.getElem?_set_ne (fun e=>hji e.symm)] at hj
   refine (h.txs q (List.mem_of_getElem? hj)).off fun k hk=>?_
   rcases hk with hk | hk | hk
   ·exact r1 (.rd j) k (by simp) (by simp [hji]) (by simp [Yai,hj,hk])
   ·exact r1 (.wr j) k (by simp) (by simp) (by simp [Yai,hj,hk])
   ·exact r1 (.up j) k (by simp) (by simp) (by simp [Yai,hj,hk])
 ·exact Yas h.lg (fun k hk=>r1 .lg k (by simp) (by simp) hk)
 ·intro k hk hno
  exact hk3 k hk (fun e=>hno .opn (by rw [e];exact hog)) (fun e=>hno (.rd i) (hrd k e))
 ·have hs:=hg2.size
  have:Below 0 w1 w2:=⟨hg2.os,hg2.tape,hg2.output,by simp at hs;omega,fun k hk=>by omega⟩;exact this.setCell (p:=⟨g,i*5+2,none⟩) (by simp) _
theorem Yv7 (mb:Nat) (n:Ya0) (s:Ya4) (l:List (TxV×TxS)) (pairs other:Yaf) (log:List Yac) (t:Int) (key:ByteArray) (i:Nat) (p:TxV×TxS) (w:World) (h:Yaq w mb n s l pairs other log) (hd:n.dead=false) (hf:Ya5 l t=some i) (hi:l[i]? = some p)
 (hk1:1≤key.size) (hk8:key.size≤8) (hlk:Ycp l t key false=false) (hll:l.length≤10) (hrl:p.1.read.length≤1999999999999):
 Calls prog 94 #[.pointer (some ⟨mb,0,none⟩),.int .i64 t,.string key] w fun e w'=>e=.returned (.tuple #[.agg #[.bool (Ycb p.1 pairs key).1,.string (Ycb p.1 pairs key).2],.int .i64 0]) ∧
  ∃ vr',Yaq w' mb n s (l.set i ({ p.1 with read:=p.1.read ++ [key] },{ p.2 with vr:=vr' })) pairs other log∧Ya9 w w' mb s s l (l.set i ({ p.1 with read:=p.1.read ++ [key] },{ p.2 with vr:=vr' })):=by
 have hil:i<l.length:=(List.getElem?_eq_some_iff.1 hi).1
 have ha:Yca n.dead (Ya5 l t) key=((i:Int),0):=by simp only [Yca,hd,hf];rw [if_neg (by simp),if_neg (by omega)]
 have HA:=Yh ha
 have HL:=Yh hlk
 have HH:=Yh h
 clear h ha hlk
 go_enter func94,ntmps94
 have HB0:Hid (Below w.heap.size w (w.alloc (.cells #[.bool false,.string ByteArray.empty] 38))):=(Below.refl _ _).alloc (Nat.le_refl _) _
 have HN0:Hid ((w.alloc (.cells #[.bool false,.string ByteArray.empty] 38)).heap[w.heap.size]? = some (.cells #[.bool false,.string ByteArray.empty] 38 (0,0))):=heap_alloc_new w _
 go_wp2_with (first
  | (go_at_call 129;go_must (
   have H0:=HH.out.below HB0.out;refine (Yf1 mb n s l t key _ H0.cell H0.opn (by omega)).mono ?_;rw [HA.out];rintro e w' ⟨rfl,rfl⟩;clear H0))
  | (go_at_call 130;go_must (
   have H0:=HH.out.below HB0.out;refine (Yh4 mb n s l t key false _ H0.cell H0.opn H0.txs (by omega)).mono ?_;rw [HL.out];rintro e w1 ⟨rfl,hb1⟩;have HB1:Hid (Below w.heap.size w w1):=HB0.out.trans (hb1.mono HB0.out.size);have HN1:Hid (w1.heap[w.heap.size]? = some (.cells #[.bool false,.string ByteArray.empty] 38 (0,0))):=(hb1.block _ (by simp)).trans HN0.out;clear H0 hb1)))
 obtain ⟨vp,vo,vt,vl⟩:=s
 obtain ⟨g,cap,hvt⟩:=Ybn HH.out.opn (by omega)
 simp only at hvt
 subst hvt
 obtain ⟨ar,cr,hvr,_⟩:=Ya6 (HH.out.txs p (List.mem_of_getElem? hi)).1
 have H1:Yaq w1 mb n ⟨vp,vo,.slice (some ⟨g,0,none⟩) l.length cap,vl⟩ l pairs other log:=HH.out.below HB1.out
 have HOLD:Hid (Yc9 w p):=HH.out.txs p (List.mem_of_getElem? hi)
 have HOLD2:Hid (w.ownsRow 0 200 5 (.slice (some ⟨g,0,none⟩) l.length cap) l.length (Ya2 l)):=HH.out.opn
 have HALL:=Yh HH.out
 have c5:w1.cell? ⟨mb,5,none⟩=some (.slice (some ⟨g,0,none⟩) l.length cap):=Yaa H1.cell rfl
 have c2:w1.cell? ⟨g,i*5+2,none⟩=some (.slice ar p.1.read.length cr):=(Yal H1.opn (Yb4 l i p hi 2 _ rfl)).trans (by rw [hvr])
 have hmw:mb<w1.heap.size:=H1.lt .mod mb rfl
 have hgw:g<w1.heap.size:=H1.lt .opn g rfl
 have hil':(i:Int)<(l.length:Int):=by omega
 have HR:Hid (w1.ownsRow 0 9 1 (.slice ar p.1.read.length cr) p.1.read.length (p.1.read.map Value.string)):=by
  have:=(H1.txs p (List.mem_of_getElem? hi)).1;rw [hvr] at this;exact this
 have HH1:=Yh H1
 have hgm:g≠mb:=fun e=>by have:=H1.apart .opn .mod mb (by simp [Yai,Value.ownBlock,e]) rfl;cases this
 have hrm:p.2.vr.ownBlock≠some mb:=fun e=>by have:=H1.apart (.rd i) .mod mb (by simp [Yai,hi,e]) rfl;cases this
 have hrg:p.2.vr.ownBlock≠some g:=fun e=>by have:=H1.apart (.rd i) .opn g (by simp [Yai,hi,e]) rfl;cases this
 have HVR:=Yh hvr
 obtain ⟨cur,hcur⟩:∃ cur,w1.heap[g]? = some (.cells cur 200 (0,0)):=by
  rcases H1.opn.2 with ⟨hh,_⟩ | ⟨g',cap',cur,hh,_,hh3,_⟩
  ·cases hh
  ·simp at hh
   obtain ⟨rfl,_⟩:=hh;exact ⟨cur,hh3⟩
 have HGB:=Yh hcur
 have hwr:p.2.vr.ownBlock≠some w.heap.size:=fun e=>by
  have:=(HOLD.out.1.lt _ e).2;omega
 have hwg:w.heap.size≠g:=fun e=>by have:=(HOLD2.out.lt g rfl).2;omega
 have hww:w.heap.size<w1.heap.size:=Yaj HN1.out
 clear hcur
 obtain ⟨i0,hi0,hx0,hx1,hx2⟩:=info_parts Yv4
 clear hvr H1 HH HA HL HB0 HN0
 go_region_law (first
  | (
   refine step_append_lies _ ?hgd (.tmp 40) (.tmp 42) 173 ?hop 0 9 i0 _ 1 16 underlying173 hi0 hx0 hx1 hx2 rfl (by omega) (.slice ar p.1.read.length cr) p.1.read.length (p.1.read.map Value.string) ?hs (World.ownsRow.alloc (w:=w1.drew) HR.out _) ⟨w1.heap.size,0,none⟩ 1 1 [.string key] ?hx rfl ?hnews ?h1 (by omega) (by unfold maxLen;omega) (by omega) (by omega) (w1.heap.size+1) ?hH ?_
   case hgd=>rfl
   case hop=>rfl
   case hs=>go_simp
   case hx=>go_simp
   case hnews=>intro j u hu;rw [Ydg];exact Yaa (heap_alloc_new w1.drew _) (by simpa using hu)
   case h1=>intro u hu;simp at hu;subst hu;rfl
   case hH=>simp
   intro g2 cc w2 ho2 hg2 hat hlt2;rw [←HVR.out] at hg2 hat;have HFIN:=Yh (Yv6 mb n ⟨vp,vo,.slice (some ⟨g,0,none⟩) l.length cap,vl⟩ l pairs other log i p key w1 w2 _ g cap g2 cc HH1.out hi rfl hrl ho2 hg2 hat);have e2:w2.cell? ⟨g,i*5+2,none⟩=some (.slice ar p.1.read.length cr):=by
    rw [World.cell?_of_block (a:=⟨g,i*5+2,none⟩) ((hg2.block g (by simp;omega) (fun e=>hrg e.symm)).trans (Below.heap_alloc w1 _ g hgw))];exact c2
   have k2:w2.frozen? ⟨g,i*5+2,none⟩=false:=by
    exact Yah _ ((hg2.block g (by simp;omega) (fun e=>hrg e.symm)).trans ((Below.heap_alloc w1 _ g hgw).trans HGB.out))
   have e5:w2.cell? ⟨mb,5,none⟩=some (.slice (some ⟨g,0,none⟩) l.length cap):=Yaa ((hg2.block mb (by simp;omega) (fun e=>hrm e.symm)).trans ((Below.heap_alloc w1 _ mb hmw).trans HH1.out.cell)) rfl;have HN2:Hid ((w2.setCell ⟨g,i*5+2,none⟩ (.slice (some ⟨g2,0,none⟩) (p.1.read.length+1) cc)).heap[w.heap.size]? = some (.cells #[.bool false,.string ByteArray.empty] 38 (0,0))):=
    (Below.heap_setCell _ _ _ _ hwg).trans ((hg2.block w.heap.size (by simp;omega) (fun e=>hwr e.symm)).trans ((Below.heap_alloc w1 _ _ hww).trans HN1.out))
   clear ho2 hg2 hat hlt2))
 all_goals
  obtain ⟨W3,hW3⟩:∃ W3,W3=w2.setCell ⟨g,i*5+2,none⟩ (.slice (some ⟨g2,0,none⟩) (p.1.read.length+1) cc):=⟨_,rfl⟩;rw [←hW3] at HFIN HN2
  (try rw [←hW3]);have hsz3:w.heap.size<W3.heap.size:=Yaj HN2.out;have hx3:∀ pq,(l.set i pq)[i]? = some pq:=fun pq=>by rw [List.getElem?_set_self hil]
  clear hW3 e2 k2 e5 HGB HOLD HOLD2 HR HH1;go_wp2_with (first | (go_at_call 131;go_must (
   refine (Ym8 mb n _ (l.set i ({ p.1 with read:=p.1.read ++ [key] },{ p.2 with vr:=.slice (some ⟨g2,0,none⟩) (p.1.read.length+1) cc })) pairs i ({ p.1 with read:=p.1.read ++ [key] },{ p.2 with vr:=.slice (some ⟨g2,0,none⟩) (p.1.read.length+1) cc }) key W3 HFIN.out.1.cell HFIN.out.1.opn HFIN.out.1.prs (HFIN.out.1.txs _ (List.mem_of_getElem? (hx3 _))) (hx3 _) (by rw [List.length_set];omega)).mono ?_;rintro e w5 ⟨rfl,hb5⟩;have HB5:=Yh hb5;have hN5:=(hb5.block _ hsz3).trans HN2.out;have n0:w5.cell? ⟨w.heap.size,0,none⟩=some (.bool false):=Yaa hN5 rfl;have n1:w5.cell? ⟨w.heap.size,1,none⟩=some (.string ByteArray.empty):=Yaa hN5 rfl;have f0:=Yah 0 hN5;have f1:=Yah 1 hN5;have HN5:=Yh hN5;clear hb5 hN5)))
  have HV:Hid (Ycb { p.1 with read:=p.1.read ++ [key] } pairs key=Ycb p.1 pairs key):=rfl;refine bodyPost_ret (v:=.tuple #[.agg #[.bool (Ycb p.1 pairs key).1,.string (Ycb p.1 pairs key).2],.int .i64 0]) ?_ rfl ⟨rfl,_,Yv5 HALL.out HB1.out hww HFIN.out.1 HFIN.out.2 HB5.out _ _⟩;refine Ygl Tryz.results94 _ _ w.heap.size 38 #[.bool (Ycb p.1 pairs key).1,.string (Ycb p.1 pairs key).2] (0,0) _ _ rfl ?_ underlying38 rfl (by kernel_rfl) rfl;exact (Yak _ _ 1 _ _ _ (Yak _ _ 0 _ _ _ HN5.out)).trans rfl
def Ygm (n:Ya0) (l:List (TxV×TxS)) (t:Int) (key:ByteArray):Int:=if (Yca n.dead (Ya5 l t) key).2≠0 then (Yca n.dead (Ya5 l t) key).2 else if Ycp l t key false then 8 else 0
theorem Yv8 (mb:Nat) (n:Ya0) (s:Ya4) (l:List (TxV×TxS)) (pairs other:Yaf) (log:List Yac) (t:Int) (key:ByteArray) (w:World) (h:Yaq w mb n s l pairs other log) (he:Ygm n l t key≠0) (hll:l.length≤10):
 Calls prog 94 #[.pointer (some ⟨mb,0,none⟩),.int .i64 t,.string key] w fun e w'=>e=.returned (.tuple #[.agg #[.bool false,.string ByteArray.empty],.int .i64 (Ygm n l t key)])∧Below w.heap.size w w':=by
 have HH:=Yh h
 have HB0:Hid (Below w.heap.size w (w.alloc (.cells #[.bool false,.string ByteArray.empty] 38))):=(Below.refl _ _).alloc (Nat.le_refl _) _
 have HN0:Hid ((w.alloc (.cells #[.bool false,.string ByteArray.empty] 38)).heap[w.heap.size]? = some (.cells #[.bool false,.string ByteArray.empty] 38 (0,0))):=heap_alloc_new w _
 clear h
 by_cases ha:(Yca n.dead (Ya5 l t) key).2=0
 ·have hl:Ycp l t key false=true:=by
   cases hq:Ycp l t key false with
   | true=>rfl
   | false=>exact absurd (by simp [Ygm,ha,hq]) he
  have HE:Hid (Ygm n l t key=8):=by show _=_;simp [Ygm,ha,hl]
  have HA:=Yh ha;have HL:=Yh hl;clear ha hl he;go_enter func94,ntmps94;go_wp2_with (first
   | (go_at_call 129;go_must (
    have H0:=HH.out.below HB0.out;refine (Yf1 mb n s l t key _ H0.cell H0.opn (by omega)).mono ?_;rw [HA.out];rintro e w' ⟨rfl,rfl⟩;clear H0))
   | (go_at_call 130;go_must (
    have H0:=HH.out.below HB0.out;refine (Yh4 mb n s l t key false _ H0.cell H0.opn H0.txs (by omega)).mono ?_;rw [HL.out];rintro e w1 ⟨rfl,hb1⟩;have HB1:Hid (Below w.heap.size w w1):=HB0.out.trans (hb1.mono HB0.out.size);have hN1:=(hb1.block w.heap.size (by simp)).trans HN0.out;have HN1:=Yh hN1;have n0:w1.cell? ⟨w.heap.size,0,none⟩=some (.bool false):=Yaa hN1 rfl;have n1:w1.cell? ⟨w.heap.size,1,none⟩=some (.string ByteArray.empty):=Yaa hN1 rfl;have f0:=Yah 0 hN1;have f1:=Yah 1 hN1;clear H0 hb1 hN1)))
  refine bodyPost_ret (v:=.tuple #[.agg #[.bool false,.string ByteArray.empty],.int .i64 8]) ?_ rfl ⟨by rw [HE.out],?_⟩
  ·refine Ygl Tryz.results94 _ _ w.heap.size 38 #[.bool false,.string ByteArray.empty] (0,0) _ _ rfl ?_ underlying38 rfl (by kernel_rfl) rfl
   exact (Yak _ _ 1 _ _ _ (Yak _ _ 0 _ _ _ HN1.out)).trans rfl
  ·exact (HB1.out.setCell (p:=⟨w.heap.size,0,none⟩) (Nat.le_refl _) _).setCell (p:=⟨w.heap.size,1,none⟩) (Nat.le_refl _) _
 ·have HE:Hid (Ygm n l t key=(Yca n.dead (Ya5 l t) key).2):=by show _=_;simp [Ygm,ha]
  have ha':((Yca n.dead (Ya5 l t) key).2 == 0)=false:=by simpa using ha
  have ha2:((Yca n.dead (Ya5 l t) key).2 != 0)=true:=by simpa using ha
  clear he;generalize hq:Yca n.dead (Ya5 l t) key=q at ha ha' ha2 HE;have HQ:=Yh hq;clear hq;obtain ⟨q1,q2⟩:=q;simp only at ha ha' ha2 HE;go_enter func94,ntmps94;go_wp2_with (first
   | (go_at_call 129;go_must (
    have H0:=HH.out.below HB0.out;refine (Yf1 mb n s l t key _ H0.cell H0.opn (by omega)).mono ?_;rw [HQ.out];rintro e w' ⟨rfl,rfl⟩;clear H0)))
  refine bodyPost_ret (v:=.tuple #[.agg #[.bool false,.string ByteArray.empty],.int .i64 q2]) ?_ rfl ⟨by rw [HE.out],HB0.out⟩;exact Ygl Tryz.results94 _ _ w.heap.size 38 #[.bool false,.string ByteArray.empty] (0,0) _ _ rfl HN0.out underlying38 rfl (by kernel_rfl) rfl
def Ybt:Ycl→ByteArray→Bool×ByteArray→Ycl
 | [],k,c=>[(k,c)]
 | p :: r,k,c=>if p.1=k then (k,c) :: r else p :: Ybt r k c
theorem Yqe:∀ (ws:Ycl) (key:ByteArray) (c:Bool×ByteArray) (i:Nat) (h:i<ws.length),(∀ j (hj:j<ws.length),j<i→ws[j].1≠key)→ws[i].1=key→Ybt ws key c=ws.set i (key,c)
 | [],_,_,i,h,_,_=>by simp at h
 | p :: r,key,c,0,_,_,he=>by
  have he':p.1=key:=he;rw [Ybt,if_pos he'];rfl
 | p :: r,key,c,i+1,h,hn,he=>by
  have h0:p.1≠key:=hn 0 (by simp) (by omega);rw [Ybt,if_neg h0,Yqe r key c i (by simpa using h) (fun j hj hlt=>hn (j+1) (Nat.succ_lt_succ hj) (by omega)) he];rfl
theorem Yqf:∀ (ws:Ycl) (key:ByteArray) (c:Bool×ByteArray),(∀ j (hj:j<ws.length),ws[j].1≠key)→Ybt ws key c=ws ++ [(key,c)]
 | [],_,_,_=>rfl
 | p :: r,key,c,hn=>by
  have h0:p.1≠key:=hn 0 (by simp);rw [Ybt,if_neg h0,Yqf r key c (fun j hj=>hn (j+1) (Nat.succ_lt_succ hj))];rfl
theorem Yqg:∀ (ws:Ycl) (i:Nat) (p:ByteArray×Bool×ByteArray) (key:ByteArray) (b:Bool) (v:ByteArray),ws[i]? = some p→p.1=key→((Yco ws).set (i*3+1) (.bool b)).set (i*3+2) (.string v)=Yco (ws.set i (key,b,v))
 | [],i,p,_,_,_,h,_=>by simp at h
 | q :: r,0,p,key,b,v,h,hk=>by
  simp at h;subst h;simp [Yco,hk]
 | q :: r,i+1,p,key,b,v,h,hk=>by
  have ih:=Yqg r i p key b v (by simpa using h) hk;have hw:∀ m:Ycl,Yco (q :: m)=[Value.string q.1,.bool q.2.1,.string q.2.2] ++ Yco m:=fun m=>by simp [Yco]
  rw [hw,List.set_cons_succ,hw,List.set_append_right _ _ (by simp;omega),List.set_append_right _ _ (by simp;omega)];simp only [List.length_cons,List.length_nil];rw [show (i+1)*3+1 - (0+1+1+1)=i*3+1 by omega,show (i+1)*3+2 - (0+1+1+1)=i*3+2 by omega,ih]
theorem Yv9:(prog.info? 206).map (fun i=>(i.zero,i.size,i.bytes))=some (some (.agg #[.string ByteArray.empty,.bool false,.string ByteArray.empty]),3,40):=by kernel_rfl
theorem Ymp {cur:Array Value} {j:Nat} (h:cur[j]? = some v):cur.setIfInBounds j v=cur:=by
 apply Array.toList_inj.1;rw [Array.toList_setIfInBounds];apply List.ext_getElem?;intro i;by_cases hi:j=i
 ·subst hi
  have:j<cur.size:=(Array.getElem?_eq_some_iff.1 h).1;rw [List.getElem?_set_self (by simpa using this)];simpa using h.symm
 ·rw [List.getElem?_set_ne hi]
def Ylc (w w':World) (b o:Nat) (cur:Array Value) (t:TypeId) (vw:Value) (ws:Ycl):Prop:=
 ∃ vw',w'.ownsRow 0 206 3 vw' ws.length (Yco ws)∧w'.heap[b]? = some (.cells (cur.setIfInBounds (o+3) vw') t (0,0))∧(∀ k,k<w.heap.size→k≠b→vw.ownBlock≠some k→w'.heap[k]? = w.heap[k]?) ∧
  (∀ g,vw'.ownBlock=some g→vw.ownBlock=some g∨w.heap.size≤g)∧Below 0 w w'
theorem Yqh (b o:Nat) (cur:Array Value) (ty:TypeId) (vw:Value) (ws:Ycl) (key:ByteArray) (is:Bool) (val:ByteArray) (w:World) (hb:w.heap[b]? = some (.cells cur ty (0,0))) (hc:cur[o+3]? = some vw) (hne:vw.ownBlock≠some b) (hown:w.ownsRow 0 206 3 vw ws.length (Yco ws)) (hlen:ws.length≤10000):
 Calls prog 172 #[.pointer (some ⟨b,o,none⟩),.string key,.agg #[.bool is,.string val]] w fun e w'=>e=.returned (.tuple #[])∧Ylc w w' b o cur ty vw (Ybt ws key (is,val)):=by
 obtain ⟨p,cap,rfl,hmax⟩:=Ya6 hown
 clear hmax
 have hbw:b<w.heap.size:=Yaj hb
 have hlt0:∀ g,(Value.slice p ws.length cap).ownBlock=some g→g<w.heap.size:=fun g hg=>(hown.lt g hg).2
 obtain ⟨W,hW⟩:∃ W,W=w.alloc (.cells #[.bool is,.string val] 38):=⟨_,rfl⟩
 have hBW:Below w.heap.size w W:=by rw [hW];exact (Below.refl _ _).alloc (Nat.le_refl _) _
 have hNW:W.heap[w.heap.size]? = some (.cells #[.bool is,.string val] 38 (0,0)):=by rw [hW];exact heap_alloc_new w _
 have hzW:W.heap.size=w.heap.size+1:=by rw [hW];simp
 have hbW:W.heap[b]? = some (.cells cur ty (0,0)):=(hBW.block b hbw).trans hb
 have hoW:W.ownsRow 0 206 3 (.slice p ws.length cap) ws.length (Yco ws):=Ybe hown hBW hlt0
 have c3:W.cell? ⟨b,o+3,none⟩=some (.slice p ws.length cap):=Yaa hbW hc
 have fz3:=Yah (o+3) hbW
 have n0:W.cell? ⟨w.heap.size,0,none⟩=some (.bool is):=Yaa hNW rfl
 have n1:W.cell? ⟨w.heap.size,1,none⟩=some (.string val):=Yaa hNW rfl
 have HBW:=Yh hBW
 have HbW:Hid (W.heap[b]? = some (.cells cur ty (0,0))∧cur[o+3]? = some (.slice p ws.length cap)):=⟨hbW,hc⟩
 have HoW:=Yh hoW
 clear hBW hNW hbW hown hb hc
 go_enter func172,ntmps172
 go_wp2
 rw [←hW]
 clear hW
 go_loopw [6] (fun i wr=>∃ k:Nat,k≤ws.length∧i=.int .i64 k∧wr=W∧(∀ j (h:j<ws.length),j<k→ws[j].1≠key)) (fun i _=>ws.length - (intOf i).toNat)
 case atStart=>exact ⟨0,by omega,rfl,rfl,fun j h hj=>by omega⟩
 case round=>
  obtain ⟨k,hk,rfl,rfl,hn⟩:=hrel;have HN:=Yh hn;clear hn;by_cases hlt:k<ws.length
  ·have hlt':(k:Int)<(ws.length:Int):=by omega
   obtain ⟨g,cap',he⟩:=Ybn hoW (by omega);simp only [Value.slice.injEq] at he;obtain ⟨rfl,-,rfl⟩:=he;obtain ⟨d0,d1,d2⟩:=Yiv ws k ws[k] (List.getElem?_eq_getElem hlt);have c0:=Yal hoW d0;have c1:=Yal hoW d1;have c2:=Yal hoW d2;have hgw:g<w.heap.size:=hlt0 g rfl;have hgb:g≠b:=fun e=>hne (by rw [e];rfl)
   by_cases hkey:ws[k].1=key
   ·have hfz:∀ j,wr.frozen? ⟨g,j,none⟩=false:=fun j=>by
     rcases HoW.out.2 with ⟨hh,_⟩ | ⟨g',cap',cu,hh,_,hh3,_⟩
     ·cases hh
     ·simp at hh
      obtain ⟨rfl,_⟩:=hh;exact Yah j hh3
    have z1:=hfz (k*3+1);have z2:=hfz (k*3+2);have HFIN:Hid (∀ W2:World,W2.heap=((wr.setCell ⟨g,k*3+1,none⟩ (.bool is)).setCell ⟨g,k*3+2,none⟩ (.string val)).heap→Below 0 wr W2→Ylc w W2 b o cur ty (.slice (some ⟨g,0,none⟩) ws.length cap) (Ybt ws key (is,val))):=by
     intro W2 hh hb2;have hset:=Yqe ws key (is,val) k hlt HN.out hkey;have r1:=Ydx (Ydx HoW.out (k*3+1) (.bool is)) (k*3+2) (.string val);rw [Yqg ws k ws[k] key is val (List.getElem?_eq_getElem hlt) hkey] at r1;have hkp:∀ q,q≠g→W2.heap[q]? = wr.heap[q]?:=fun q hq=>by
      rw [hh];exact (Below.heap_setCell _ _ _ _ hq).trans (Below.heap_setCell _ _ _ _ hq)
     refine ⟨.slice (some ⟨g,0,none⟩) ws.length cap,?_,?_,fun q h1 h2 h3=>?_,fun q hq=>.inl hq,(HBW.out.mono (Nat.zero_le _)).trans hb2⟩
     ·rw [hset,List.length_set]
      exact Yas r1 (fun q _=>by rw [hh])
     ·rw [hkp b (Ne.symm hgb),HbW.out.1]
      rw [Ymp HbW.out.2]
     ·rw [hkp q (fun e=>h3 (by rw [e];rfl))]
      exact HBW.out.block q h1
    rw [hkey] at c0;clear d0 d1 d2 hfz;generalize ws[k].2.1=x1 at c1;generalize ws[k].2.2=x2 at c2;go_wp2;go_region
    all_goals
     go_wp2;refine bodyPost_ret (v:=.tuple #[]) (results_none Tryz.results172 _ _ _) rfl ⟨rfl,HFIN.out _ rfl ?_⟩;exact (((Below.refl _ _).setCell (p:=⟨g,k*3+1,none⟩) (by simp) _).setCell (p:=⟨g,k*3+2,none⟩) (by simp) _).drew
   ·have hke:=Yg8 hkey
    have HN1:Hid (∀ j (h:j<ws.length),j<k+1→ws[j].1≠key):=fun j h hj=>by
     by_cases hjk:j=k
     ·subst hjk;exact hkey
     ·exact HN.out j h (by omega)
    clear d0 d1 d2 c1 c2;generalize ws[k].1=q at c0 hke hkey;go_wp2;exact ⟨⟨k+1,by omega,by simp,trivial,HN1.out⟩,by simp [intOf];omega⟩
  ·have hlt':¬(k:Int)<(ws.length:Int):=by omega
   have hset:Ybt ws key (is,val)=ws ++ [(key,is,val)]:=Yqf ws key (is,val) (fun j hj=>HN.out j hj (by omega));have HS:=Yh hset;clear hset;go_wp2;obtain ⟨i0,hi0,hx0,hx1,hx2⟩:=info_parts Yv9;have hbW2:b<wr.heap.size:=Yaj HbW.out.1;have hNw:w.heap.size<wr.heap.size:=by omega
   go_region_law (first
    | (
     refine step_append_lies _ ?hgd (.tmp 38) (.tmp 42) 198 ?hop 0 206 i0 _ 3 40 underlying198 hi0 hx0 hx1 hx2 rfl (by omega) (.slice p ws.length cap) ws.length (Yco ws) ?hs (World.ownsRow.alloc (w:=wr.drew) HoW.out _) ⟨wr.heap.size,0,none⟩ 1 1 [.string key,.bool is,.string val] ?hx rfl ?hnews ?h1 (by omega) (by unfold maxLen;omega) (by omega) (by omega) (wr.heap.size+1) ?hH ?_
     case hgd=>rfl
     case hop=>rfl
     case hs=>go_simp
     case hx=>go_simp
     case hnews=>intro j u hu;rw [Ydg];exact Yaa (heap_alloc_new wr.drew _) (by simpa using hu)
     case h1=>intro u hu;simp at hu;rcases hu with rfl | rfl | rfl <;> rfl
     case hH=>simp
     intro g2 cc w2 ho2 hg2 hat hlt2;have hb2:=(hg2.block b (by simp;omega) (fun e=>hne e.symm)).trans ((Below.heap_alloc wr _ b hbW2).trans HbW.out.1);have e3:w2.cell? ⟨b,o+3,none⟩=some (.slice p ws.length cap):=Yaa hb2 HbW.out.2;have k3:=Yah (o+3) hb2;have HFIN:Hid (∀ W2:World,W2.heap=(w2.setCell ⟨b,o+3,none⟩ (.slice (some ⟨g2,0,none⟩) (ws.length+1) cc)).heap→Below 0 w2 W2→Ylc w W2 b o cur ty (.slice p ws.length cap) (Ybt ws key (is,val))):=by
      intro W2 hh hbb;have hg2b:g2≠b:=by
       rcases hat with hat | hat
       ·exact fun e=>hne (by rw [hat,e])
       ·omega
      refine ⟨.slice (some ⟨g2,0,none⟩) (ws.length+1) cc,?_,?_,fun q h1 h2 h3=>?_,fun q hq=>?_,?_⟩
      ·rw [HS.out,List.length_append,Yvx]
       refine Yas ho2 (fun q hq=>?_);rw [hh];simp [Value.ownBlock] at hq;subst hq;exact Below.heap_setCell _ _ _ _ hg2b
      ·rw [hh]
       exact Yak _ _ _ _ _ _ hb2
      ·rw [hh,Below.heap_setCell _ _ _ _ h2]
       exact (hg2.block q (by simp;omega) (fun e=>h3 e.symm)).trans ((Below.heap_alloc wr _ q (by omega)).trans (HBW.out.block q h1))
      ·simp [Value.ownBlock] at hq
       subst hq;rcases hat with hat | hat
       ·exact .inl hat
       ·exact .inr (by omega)
      ·have hs:=hg2.size
       have h1:=HBW.out.size;have h2:=hbb.size;exact ⟨(hbb.os.trans hg2.os).trans HBW.out.os,(hbb.tape.trans hg2.tape).trans HBW.out.tape,(hbb.output.trans hg2.output).trans HBW.out.output,by simp at hs;omega,fun k hk=>by omega⟩
     clear ho2 hg2 hat hlt2 hb2))
   all_goals
    go_wp2;go_end0;refine ⟨rfl,HFIN.out _ rfl ?_⟩;exact (Below.refl _ _).setCell (p:=⟨b,o+3,none⟩) (by simp) _
end Go.Proofs.YtihbngfbcnojcaaGreat
