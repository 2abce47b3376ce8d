import Derived.Test.YtihbngfbcnojcaaGreatActC06
import Derived.Deep.RegionHeld3
import Derived.Deep.RegionLaw
import Derived.Lib.Overlaps
set_option maxRecDepth 100000
set_option maxHeartbeats 8000000
namespace Go.Proofs.YtihbngfbcnojcaaGreat
open Go.RowKit Tryz
variable {a b key:ByteArray} {xs:List Value} {base cap g i n size:Nat} {e t:TypeId} {v:Value} {w:World} {ps:Yaf}
def blt (a b:ByteArray):Prop:=a.toList<b.toList
theorem Yiv (a:ByteArray):¬blt a a:=List.lt_irrefl _
theorem Yh3 {c:ByteArray} (h:blt a b) (k:blt b c):blt a c:=List.lt_trans h k
theorem Yle (h:¬blt a b) (k:¬blt b a):a=b:=toList_inj (List.le_antisymm (List.not_lt.1 k) (List.not_lt.1 h))
theorem Yqq (h:blt a b):Op.bytesLess a.toList b.toList=true:=Ypi h
theorem Yqr (h:¬blt a b):Op.bytesLess a.toList b.toList=false:=Yph h
def Yfi (a b:ByteArray):Int:=if a.toList<b.toList then -1 else if b.toList<a.toList then 1 else 0
theorem Yqs (h:blt a b):Yfi a b = -1:=if_pos h
theorem Ynb (h:¬blt a b) (k:blt b a):Yfi a b=1:=(if_neg h).trans (if_pos k)
theorem Ync (h:¬blt a b) (k:¬blt b a):Yfi a b=0:=(if_neg h).trans (if_neg k)
theorem Ynd (a:ByteArray) (w:World):Calls prog 234 #[.string a] w fun e w'=>e=.returned (.bool false)∧w=w':=by
 have e1:(a.toList == a.toList)=true:=by simp
 go_enter func234,ntmps234;go_wp2;go_ret;exact ⟨rfl,rfl⟩
theorem Ywu (a b:ByteArray) (w:World):Calls prog 206 #[.string a,.string b] w fun e w'=>e=.returned (.int .i64 (Yfi a b))∧w=w':=by
 by_cases h1:blt a b
 ·have e1:=Yqq h1
  have ec:Yfi a b = -1:=Yqs h1;go_enter func206,ntmps206;go_wp2_with (first | (go_at_call 234;refine (Ynd _ _).mono ?_;rintro e w' ⟨rfl,rfl⟩))
  go_ret;exact ⟨by rw [ec];rfl,rfl⟩
 ·have e1:=Yqr h1
  by_cases h2:blt b a
  ·have e2:=Yqq h2
   have ec:Yfi a b=1:=Ynb h1 h2;have hne:a≠b:=fun h=>by subst h;exact h1 h2
   have e3:=Yg6 hne;go_enter func206,ntmps206;go_wp2_with (first | (go_at_call 234;refine (Ynd _ _).mono ?_;rintro e w' ⟨rfl,rfl⟩))
   go_ret;exact ⟨by rw [ec];rfl,rfl⟩
  ·have e2:=Yqr h2
   have ec:Yfi a b=0:=Ync h1 h2;have:=Yle h1 h2;subst this;go_enter func206,ntmps206;go_wp2_with (first | (go_at_call 234;refine (Ynd _ _).mono ?_;rintro e w' ⟨rfl,rfl⟩))
   go_ret;exact ⟨by rw [ec];rfl,rfl⟩
theorem Yne (a v b:ByteArray) (w:World):Calls prog 158 #[.agg #[.string a,.string v],.string b] w fun e w'=>e=.returned (.int .i64 (Yfi a b))∧Below w.heap.size w w':=by
 go_enter func158,ntmps158;go_wp2_with (first | (go_at_call 206;refine (Ywu _ _ _).mono ?_;rintro e w' ⟨rfl,rfl⟩))
 go_ret;exact ⟨rfl,(Below.refl _ _).alloc (Nat.le_refl _) _⟩
def Ybi (ps:Yaf):Prop:=∀ i j (hi:i<ps.length) (hj:j<ps.length),i<j→blt ps[i].1 ps[j].1
def Yh4 (ps:Yaf) (key:ByteArray) (i:Nat):Prop:=i≤ps.length∧(∀ m (h:m<ps.length),m<i→blt ps[m].1 key)∧(∀ m (h:m<ps.length),i≤m→¬blt ps[m].1 key)
def Ydo (ps:Yaf) (key:ByteArray) (i:Nat):Bool:=if h:i<ps.length then decide (ps[i].1=key) else false
theorem Yiw (base:Nat) (v:Value) (ps:Yaf) (key:ByteArray) (w:World) (hown:w.ownsRow base 43 2 v ps.length (Yad ps)) (hlen:ps.length≤100000) (hr:Ybi ps):
 Calls prog 157 #[v,.string key,.func (.func 158) #[] #[]] w fun e w'=>∃ i:Nat,Yh4 ps key i∧e=.returned (.tuple #[.int .i64 i,.bool (Ydo ps key i)])∧Below w.heap.size w w':=by
 obtain ⟨p,cap,rfl,hmax⟩:=Ya6 hown
 clear hmax
 have hlt0:∀ g,(Value.slice p ps.length cap).ownBlock=some g→g<w.heap.size:=fun g hg=>(hown.lt g hg).2
 go_enter func157,ntmps157
 go_wp2
 go_loopw [9,10] (fun i j wr=>∃ a b:Nat,a≤b∧b≤ps.length∧i=.int .i64 a∧j=.int .i64 b∧(∀ m (h:m<ps.length),m<a→blt ps[m].1 key)∧(∀ m (h:m<ps.length),b≤m→¬blt ps[m].1 key)∧Below w.heap.size w wr) (fun i j _=>(intOf j).toNat - (intOf i).toNat)
 case atStart=>exact ⟨0,ps.length,by omega,by omega,rfl,rfl,fun m h h2=>by omega,fun m h h2=>by omega,Below.refl _ _⟩
 case round=>
  obtain ⟨a,b,hab,hbl,rfl,rfl,hlo,hhi,hbr⟩:=hrel;have HBR:=Yh hbr;have hownr:wr.ownsRow base 43 2 (.slice p ps.length cap) ps.length (Yad ps):=Ybe hown hbr hlt0;have HLO:=Yh hlo;have HHI:=Yh hhi;have HR:=Yh hr;clear hlo hhi hbr;by_cases hlt:a<b
  ·have hlt':(a:Int)<(b:Int):=by omega
   obtain ⟨m,hm1,ham,hmb⟩:∃ m:Nat,((a:Int)+(b:Int)) / 2=(m:Int)∧a≤m∧m<b:=⟨(a+b) / 2,by omega,by omega,by omega⟩;have hmn:m<ps.length:=by omega
   have hmn':(m:Int)<(ps.length:Int):=by omega
   obtain ⟨g,cap',he⟩:=Ybn hownr (by omega);simp only [Value.slice.injEq] at he;obtain ⟨rfl,-,rfl⟩:=he;obtain ⟨hc0,hc1⟩:=Ye2 ps m ps[m] (List.getElem?_eq_getElem hmn);have c0:=Yal hownr hc0;have c1:=Yal hownr hc1;clear hc0 hc1;by_cases hq:blt ps[m].1 key
   ·have hneg:Yfi ps[m].1 key<0:=by rw [Yqs hq];decide
    have HQ:Hid (∀ k (h:k<ps.length),k<m+1→blt ps[k].1 key):=by
     intro k h hk;by_cases hkm:k=m
     ·subst hkm;exact hq
     ·exact Yh3 (HR.out k m h hmn (by omega)) hq
    generalize ps[m].1=k0 at c0 hneg;generalize ps[m].2=v0 at c1;clear hq;go_wp2_with (first | (go_at_call 158;go_must (refine (Yne _ _ _ _).mono ?_;rintro e w2 ⟨rfl,hb2⟩)))
    exact ⟨⟨m+1,b,by omega,by omega,by simp,rfl,HQ.out,HHI.out,HBR.out.trans (hb2.mono HBR.out.size)⟩,by simp [intOf];omega⟩
   ·have hneg:¬Yfi ps[m].1 key<0:=by
     by_cases hq2:blt key ps[m].1
     ·rw [Ynb hq hq2];decide
     ·rw [Ync hq hq2];decide
    have HQ:Hid (∀ k (h:k<ps.length),m≤k→¬blt ps[k].1 key):=by
     intro k h hk hbl;by_cases hkm:k=m
     ·subst hkm;exact hq hbl
     ·exact hq (Yh3 (HR.out m k hmn h (by omega)) hbl)
    generalize ps[m].1=k0 at c0 hneg;generalize ps[m].2=v0 at c1;clear hq;go_wp2_with (first | (go_at_call 158;go_must (refine (Yne _ _ _ _).mono ?_;rintro e w2 ⟨rfl,hb2⟩)))
    exact ⟨⟨a,m,by omega,by omega,rfl,by simp,HLO.out,HQ.out,HBR.out.trans (hb2.mono HBR.out.size)⟩,by simp [intOf];omega⟩
  ·have hlt':¬(a:Int)<(b:Int):=by omega
   have hab':b=a:=by omega
   subst hab';have HP:Hid (Yh4 ps key b):=⟨hbl,HLO.out,HHI.out⟩;by_cases hbn:b<ps.length
   ·have hbn':(b:Int)<(ps.length:Int):=by omega
    obtain ⟨g,cap',he⟩:=Ybn hownr (by omega);simp only [Value.slice.injEq] at he;obtain ⟨rfl,-,rfl⟩:=he;obtain ⟨hc0,hc1⟩:=Ye2 ps b ps[b] (List.getElem?_eq_getElem hbn);have c0:=Yal hownr hc0;have c1:=Yal hownr hc1;have HF:Hid (Ydo ps key b=(Yfi ps[b].1 key == 0)):=by
     show _=_;have hn:=HP.out.2.2 b hbn (Nat.le_refl _);by_cases hk:ps[b].1=key
     ·rw [hk,Ync (Yiv _) (Yiv _)];simp [Ydo,hbn,hk]
     ·have h2:blt key ps[b].1:=Classical.byContradiction fun h=>hk (Yle hn h)
      rw [Ynb hn h2];simp [Ydo,hbn,hk]
    clear hc0 hc1;generalize ps[b].1=k0 at c0 HF;generalize ps[b].2=v0 at c1;go_wp2_with (first | (go_at_call 158;go_must (refine (Yne _ _ _ _).mono ?_;rintro e w2 ⟨rfl,hb2⟩)))
    go_ret2;exact ⟨b,HP.out,by rw [HF.out];rfl,HBR.out.trans (hb2.mono HBR.out.size)⟩
   ·have hbn':¬(b:Int)<(ps.length:Int):=by omega
    have HF:Hid (Ydo ps key b=false):=by show _=_;simp [Ydo,hbn]
    go_wp2;go_ret2;exact ⟨b,HP.out,by rw [HF.out];rfl,HBR.out⟩
theorem Ylf:∀ (ps:Yaf) (key:ByteArray),(∀ m (h:m<ps.length),ps[m].1≠key)→Yag ps key=(false,ByteArray.empty)
 | [],_,_=>rfl
 | p :: r,key,h=>by
  have h0:p.1≠key:=h 0 (by simp);rw [Yag,if_neg h0];exact Ylf r key (fun m hm=>h (m+1) (by simp;omega))
theorem Yqt:∀ (ps:Yaf) (key:ByteArray) (i:Nat) (h:i<ps.length),(∀ m (hm:m<ps.length),m<i→ps[m].1≠key)→ps[i].1=key→Yag ps key=(true,ps[i].2)
 | [],_,i,h,_,_=>by simp at h
 | p :: r,key,0,h,_,he=>by rw [Yag,if_pos (by simpa using he)];rfl
 | p :: r,key,i+1,h,hn,he=>by
  have h0:p.1≠key:=hn 0 (by simp) (by omega);rw [Yag,if_neg h0];simpa using Yqt r key i (by simpa using h) (fun m hm hlt=>hn (m+1) (by simp;omega) (by omega)) (by simpa using he)
theorem Yek (h:blt a b):a≠b:=fun e=>by subst e;exact Yiv _ h
theorem Ywv (hp:Yh4 ps key i) (hr:Ybi ps):(∃ h:i<ps.length,Ydo ps key i=true∧ps[i].1=key∧Yag ps key=(true,ps[i].2))∨(Ydo ps key i=false∧Yag ps key=(false,ByteArray.empty)):=by
 by_cases h:i<ps.length
 ·by_cases hk:ps[i].1=key
  ·exact .inl ⟨h,by simp [Ydo,h,hk],hk,Yqt ps key i h (fun m hm hlt=>Yek (hp.2.1 m hm hlt)) hk⟩
  ·refine .inr ⟨by simp [Ydo,h,hk],Ylf ps key fun m hm e=>?_⟩
   by_cases hmi:m<i
   ·exact Yek (hp.2.1 m hm hmi) e
   ·have hlt:blt key ps[i].1:=Classical.byContradiction fun hc=>hk (Yle (hp.2.2 i h (Nat.le_refl _)) hc)
    by_cases hme:m=i
    ·subst hme;exact hk e
    ·have:=hr i m h hm (by omega)
     rw [e] at this;exact Yiv _ (Yh3 hlt this)
 ·refine .inr ⟨by simp [Ydo,h],Ylf ps key fun m hm e=>?_⟩
  exact Yek (hp.2.1 m hm (by omega)) e
theorem Yix {j:Nat} (hi:Yh4 ps key i) (hj:Yh4 ps key j):i=j:=by
 rcases Nat.lt_trichotomy i j with h | h | h
 ·exact absurd (hj.2.1 i (by have:=hj.1;omega) h) (hi.2.2 i (by have:=hj.1;omega) (Nat.le_refl _))
 ·exact h
 ·exact absurd (hi.2.1 j (by have:=hi.1;omega) h) (hj.2.2 j (by have:=hi.1;omega) (Nat.le_refl _))
theorem Yww {p:ByteArray×ByteArray} {r:Yaf} (h:Ybi (p :: r)):Ybi r:=fun i j hi hj hlt=>by
 exact h (i+1) (j+1) (Nat.succ_lt_succ hi) (Nat.succ_lt_succ hj) (by omega)
theorem Ylg:∀ (ps:Yaf) (key:ByteArray),Ybi ps→∃ i,Yh4 ps key i
 | [],_,_=>⟨0,Nat.le_refl _,fun m h=>by simp at h,fun m h=>by simp at h⟩
 | p :: r,key,hr=>by
  by_cases hp:blt p.1 key
  ·obtain ⟨i,h1,h2,h3⟩:=Ylg r key (Yww hr)
   refine ⟨i+1,by simpa using h1,fun m h hm=>?_,fun m h hm=>?_⟩
   ·match m with
    | 0=>exact hp
    | m+1=>simpa using h2 m (by simpa using h) (by omega)
   ·match m with
    | 0=>omega
    | m+1=>simpa using h3 m (by simpa using h) (by omega)
  ·refine ⟨0,by simp,fun m h hm=>by omega,fun m h _ hb=>?_⟩
   match m with
   | 0=>exact hp hb
   | m+1=>exact hp (Yh3 (hr 0 (m+1) (by simp) h (by omega)) hb)
def Yh5 (w:World) (pb:Nat) (turn:Int) (v:Value) (ps:Yaf):Prop:=w.heap[pb]? = some (.cells #[.int .i64 turn,v] 180 (0,0))∧w.ownsRow 0 43 2 v ps.length (Yad ps)
theorem Ywx (pb:Nat) (turn:Int) (v:Value) (ps:Yaf) (key:ByteArray) (w:World) (hp:Yh5 w pb turn v ps) (hlen:ps.length≤100000) (hr:Ybi ps):
 Calls prog 297 #[.pointer (some ⟨pb,0,none⟩),.string key] w fun e w'=>e=.returned (.agg #[.bool (Yag ps key).1,.string (Yag ps key).2])∧Below w.heap.size w w':=by
 obtain ⟨hpb,hown⟩:=hp
 have hpw:pb<w.heap.size:=Yaj hpb
 have hpb1:=(Below.heap_alloc w (.cells #[.bool false,.string ByteArray.empty] 38) pb hpw).trans hpb
 have hown1:=hown.alloc (.cells #[.bool false,.string ByteArray.empty] 38)
 have hnew:=heap_alloc_new w (.cells #[.bool false,.string ByteArray.empty] 38)
 have hB:Below w.heap.size w (w.alloc (.cells #[.bool false,.string ByteArray.empty] 38)):=(Below.refl _ _).alloc (Nat.le_refl _) _
 have cp:w.cell? ⟨pb,1,none⟩=some v:=Yaa (j:=1) hpb rfl
 have hlt0:∀ g,v.ownBlock=some g→g<w.heap.size:=fun g hg=>(hown.lt g hg).2
 have HX:Hid (∀ w1,(w.alloc (.cells #[.bool false,.string ByteArray.empty] 38))=w1→w1.heap[pb]? = some (.cells #[.int .i64 turn,v] 180 (0,0))∧w1.ownsRow 0 43 2 v ps.length (Yad ps)∧w1.heap[w.heap.size]? = some (.cells #[.bool false,.string ByteArray.empty] 38 (0,0))∧Below w.heap.size w w1∧w1.heap.size=w.heap.size+1):=by
  rintro w1 rfl;exact ⟨hpb1,hown1,hnew,hB,by simp⟩
 clear hpb1 hown1 hnew hB hpb hown
 obtain ⟨i,hpos⟩:=Ylg ps key hr
 have HP:=Yh hpos
 have hfu:=Ywv hpos hr
 have hil:=hpos.1
 clear hpos
 have hcase:(∃ (h:i<ps.length) (p:ByteArray×ByteArray),ps[i]? = some p∧Ydo ps key i=true∧Hid (Yag ps key=(true,p.2)))∨(Ydo ps key i=false∧Hid (Yag ps key=(false,ByteArray.empty))):=by
  rcases hfu with ⟨h,h1,_,h3⟩ | ⟨h1,h2⟩
  ·exact .inl ⟨h,ps[i],List.getElem?_eq_getElem h,h1,h3⟩
  ·exact .inr ⟨h1,h2⟩
 clear hfu
 rcases hcase with ⟨hlt,⟨k0,v0⟩,hpi,hfo,HU⟩ | ⟨hfo,HU⟩
 ·obtain ⟨hc0,hc1⟩:=Ye2 ps i (k0,v0) hpi
  have hlt':(i:Int)<(ps.length:Int):=by omega
  go_enter func297,ntmps297;go_wp2_with (first | (go_at_call 157;go_must (
   obtain ⟨hpb1,hown1,hnew,hB,hz⟩:=HX.out _ rfl;refine (Yiw 0 v ps key _ hown1 hlen hr).mono ?_;rintro e w2 ⟨i2,hpos,rfl,hb2⟩;obtain rfl:=Yix HP.out hpos;have hpb2:=(hb2.block pb (by omega)).trans hpb1;have hnew2:=(hb2.block w.heap.size (by omega)).trans hnew;have cp2:w2.cell? ⟨pb,1,none⟩=some v:=Yaa (j:=1) hpb2 rfl;have n0:w2.cell? ⟨w.heap.size,0,none⟩=some (.bool false):=Yaa (j:=0) hnew2 rfl;have n1:w2.cell? ⟨w.heap.size,1,none⟩=some (.string ByteArray.empty):=Yaa (j:=1) hnew2 rfl;have f0:=Yah 0 hnew2;have f1:=Yah 1 hnew2;have hown2:=Ybe hown1 hb2 (fun g hg=>by have:=hlt0 g hg;omega);have HB2:Hid (Below w.heap.size w w2):=hB.trans (hb2.mono hB.size);have HN:=Yh hnew2;obtain ⟨g,cap,rfl⟩:=Ybn hown2 (by omega);have c0:=Yal hown2 hc0;have c1:=Yal hown2 hc1;have HF:Hid (((w2.setCell ⟨w.heap.size,0,none⟩ (.bool true)).setCell ⟨w.heap.size,1,none⟩ (.string v0)).heap[w.heap.size]? = some (.cells #[.bool true,.string v0] 38 (0,0))):=by
    exact (Yak _ _ 1 _ _ _ (Yak _ _ 0 _ _ _ HN.out)).trans rfl
   clear hpb1 hown1 hnew hB hz hpb2 hnew2 hb2 hpos cp HX)))
  refine bodyPost_ret (v:=.agg #[.bool true,.string v0]) ?_ rfl ⟨by rw [HU.out],?_⟩
  ·exact results_cell_row Tryz.results297 _ _ w.heap.size 38 #[.bool true,.string v0] (0,0) _ rfl HF.out underlying38 rfl (by kernel_rfl)
  ·exact (HB2.out.setCell (p:=⟨w.heap.size,0,none⟩) (Nat.le_refl _) _).setCell (p:=⟨w.heap.size,1,none⟩) (Nat.le_refl _) _
 ·go_enter func297,ntmps297
  go_wp2_with (first | (go_at_call 157;go_must (
   obtain ⟨hpb1,hown1,hnew,hB,hz⟩:=HX.out _ rfl;refine (Yiw 0 v ps key _ hown1 hlen hr).mono ?_;rintro e w2 ⟨i2,hpos,rfl,hb2⟩;obtain rfl:=Yix HP.out hpos;have hpb2:=(hb2.block pb (by omega)).trans hpb1;have hnew2:=(hb2.block w.heap.size (by omega)).trans hnew;have cp2:w2.cell? ⟨pb,1,none⟩=some v:=Yaa (j:=1) hpb2 rfl;have n0:w2.cell? ⟨w.heap.size,0,none⟩=some (.bool false):=Yaa (j:=0) hnew2 rfl;have n1:w2.cell? ⟨w.heap.size,1,none⟩=some (.string ByteArray.empty):=Yaa (j:=1) hnew2 rfl;have f0:=Yah 0 hnew2;have f1:=Yah 1 hnew2;have hown2:=Ybe hown1 hb2 (fun g hg=>by have:=hlt0 g hg;omega);have HB2:Hid (Below w.heap.size w w2):=hB.trans (hb2.mono hB.size);have HN:=Yh hnew2;have HF:Hid (((w2.setCell ⟨w.heap.size,0,none⟩ (.bool false)).setCell ⟨w.heap.size,1,none⟩ (.string ByteArray.empty)).heap[w.heap.size]? = some (.cells #[.bool false,.string ByteArray.empty] 38 (0,0))):=by
    exact (Yak _ _ 1 _ _ _ (Yak _ _ 0 _ _ _ HN.out)).trans rfl
   clear hpb1 hown1 hnew hB hz hpb2 hnew2 hb2 hpos cp HX)))
  refine bodyPost_ret (v:=.agg #[.bool false,.string ByteArray.empty]) ?_ rfl ⟨by rw [HU.out],?_⟩
  ·exact results_cell_row Tryz.results297 _ _ w.heap.size 38 #[.bool false,.string ByteArray.empty] (0,0) _ rfl HF.out underlying38 rfl (by kernel_rfl)
  ·exact (HB2.out.setCell (p:=⟨w.heap.size,0,none⟩) (Nat.le_refl _) _).setCell (p:=⟨w.heap.size,1,none⟩) (Nat.le_refl _) _
theorem Yj5 (ps:Yaf):∀ u∈Yad ps,u.oneCell'=true:=by
 intro u hu;simp only [Yad,List.mem_flatMap] at hu;obtain ⟨p,_,hp⟩:=hu;simp at hp;rcases hp with rfl | rfl <;> rfl
theorem Ywy (h:w.ownsRow base e size (.slice (some ⟨g,0,none⟩) n cap) n xs) {j:Nat} (hj:j<cap*size):(w.cell? ⟨g,j,none⟩).isSome=true∧w.frozen? ⟨g,j,none⟩=false:=by
 rcases h.2 with ⟨h1,_⟩ | ⟨g',cap',cur,h1,h2,h3,h4,h5,h6,h7⟩
 ·cases h1
 ·simp at h1
  obtain ⟨rfl,rfl⟩:=h1;exact ⟨by rw [Yaa h3 (Array.getElem?_eq_getElem (show j<cur.size by omega))];rfl,Yah _ h3⟩
theorem Yj6 (h:w.ownsRow base e size (.slice (some ⟨g,0,none⟩) n cap) n xs):
 ∃ rest:List Value,w.heap[g]? = some (.cells (xs ++ rest).toArray e (0,0))∧xs.length=n*size∧xs.length+rest.length=cap*size∧n≤cap∧cap≤maxLen:=by
 rcases h.2 with ⟨h1,_⟩ | ⟨g',cap',cur,h1,h2,h3,h4,h5,h6,h7⟩
 ·cases h1
 ·simp at h1
  obtain ⟨rfl,rfl⟩:=h1;refine ⟨cur.toList.drop (n*size),?_,h.1,?_,h4,h5⟩
  ·rw [←h7,List.take_append_drop,Array.toArray_toList];exact h3
  ·have hle:n*size≤cur.toList.length:=by
    rw [←h7] at h;have:=h.1;simp at this ⊢;omega
   rw [h.1,List.length_drop];simp at hle ⊢;omega
theorem Yj7 {rest:List Value} (hb:base≤g) (hg:w.heap[g]? = some (.cells (xs ++ rest).toArray e (0,0))) (h1:xs.length=n*size) (h2:xs.length+rest.length=cap*size) (h3:n≤cap) (h4:cap≤maxLen):
 w.ownsRow base e size (.slice (some ⟨g,0,none⟩) n cap) n xs:=
 ⟨h1,.inr ⟨g,cap,_,rfl,hb,hg,h3,h4,by simpa using h2,by rw [←h1];simp⟩⟩
theorem Yh6 (X Y Z S:List Value) (h:w.heap[g]? = some (.cells (X ++ Y ++ Z).toArray t (0,0))) (hl:S.length=Y.length):(w.setCells g X.length S).heap[g]? = some (.cells (X ++ S ++ Z).toArray t (0,0)):=by
 induction S generalizing w X Y with
 | nil=>
  obtain rfl:Y=[]:=List.eq_nil_of_length_eq_zero (by simpa using hl.symm);exact h
 | cons v r ih=>
  match Y with
  | []=>simp at hl
  | y :: Y=>
   have h1:=Yak w g X.length v _ t h;have h2:((X ++ y :: Y ++ Z).toArray.setIfInBounds X.length v)=((X ++ [v]) ++ Y ++ Z).toArray:=by
    apply Array.toList_inj.1;simp
   rw [h2] at h1;have:=ih (X ++ [v]) Y h1 (by simpa using hl);simp only [World.setCells];simpa using this
theorem Yiy (S:List Value) (w:World) (g o:Nat):(∀ k,k≠g→(w.setCells g o S).heap[k]? = w.heap[k]?)∧Below 0 w (w.setCells g o S):=by
 induction S generalizing w o with
 | nil=>exact ⟨fun _ _=>rfl,Below.refl _ _⟩
 | cons v r ih=>
  obtain ⟨h1,h2⟩:=ih (w.setCell ⟨g,o,none⟩ v) (o+1);exact ⟨fun k hk=>(h1 k hk).trans (Below.heap_setCell _ _ _ _ hk),((Below.refl _ _).setCell (p:=⟨g,o,none⟩) (by simp) _).trans h2⟩
theorem Yqu (w:World) (ty:TypeId) (g o c:Nat) (t0 t1:Value) (h0:w.cell? ⟨g,o,none⟩=some t0) (h1:w.cell? ⟨g,o+1,none⟩=some t1) (f0:w.frozen? ⟨g,o,none⟩=false) (f1:w.frozen? ⟨g,o+1,none⟩=false):
 Sem.run prog (Builtin.clear_ #[34] ty #[.slice (some ⟨g,o,none⟩) 1 c]) w=.ok (.tuple #[]) ((w.setCell ⟨g,o,none⟩ (.string ByteArray.empty)).setCell ⟨g,o+1,none⟩ (.string ByteArray.empty)):=by
 obtain ⟨i0,hi0,hz0,hz1,hz2⟩:=info_parts Ygj
 have hv:(zeroValue 43).run prog w=.ok (.agg #[.string ByteArray.empty,.string ByteArray.empty]) w:=by
  simp [zeroValue,typeInfo,hi0,hz0]
 have hzc:(Builtin.zeroCells (Value.agg #[.string ByteArray.empty,.string ByteArray.empty]).cells 1).toList=[.string ByteArray.empty,.string ByteArray.empty]:=by
  simp [Builtin.zeroCells,Value.cells];rfl
 have hst:=run_storeCells_cells (P:=prog) g o [.string ByteArray.empty,.string ByteArray.empty] 0 w
  (by intro j hj;match j,hj with | 0,_=>(simp [h0]) | 1,_=>(simp [h1]))
  (by intro j hj;match j,hj with | 0,_=>(simpa using f0) | 1,_=>(simpa using f1))
  (by intro v hv;simp at hv;subst hv;rfl)
 simp only [Nat.add_zero,World.setCells] at hst
 simp [Builtin.clear_,run_underlying underlying34,hv,hzc,hst]
theorem Ywz (g cap a r:Nat) (A B:Yaf) (p:ByteArray×ByteArray) (w:World) (hA:A.length=a) (hB:B.length=r) (hown:w.ownsRow 0 43 2 (.slice (some ⟨g,0,none⟩) (a+1+r) cap) (a+1+r) (Yad (A ++ p :: B))) (hlen:a+1+r≤100000):
 Calls prog 159 #[.slice (some ⟨g,0,none⟩) (a+1+r) cap,.int .i64 a,.int .i64 ((a:Int)+1)] w fun e w'=>e=.returned (.slice (some ⟨g,0,none⟩) (a+r) cap) ∧
  w'.ownsRow 0 43 2 (.slice (some ⟨g,0,none⟩) (a+r) cap) (a+r) (Yad (A ++ B))∧(∀ k,k<w.heap.size→k≠g→w'.heap[k]? = w.heap[k]?)∧Below 0 w w':=by
 obtain ⟨i0,hi0,hz0,hz1,hz2⟩:=info_parts Ygj
 obtain ⟨rest,hg,hl1,hl2,hcap,hmax⟩:=Yj6 hown
 have hpc:Yad (A ++ p :: B)=Yad A ++ [Value.string p.1,Value.string p.2] ++ Yad B:=by simp [Yad]
 have HG:Hid (w.heap[g]? = some (.cells (Yad A ++ ([Value.string p.1,Value.string p.2] ++ Yad B) ++ rest).toArray 43 (0,0))):=by
  show _=_;rw [hg,hpc];simp
 have HL:Hid ((Yad A).length=a*2∧(Yad B).length=r*2∧rest.length+(a+1+r)*2=cap*2∧cap≤maxLen):=⟨by rw [Yds,hA],by rw [Yds,hB],by omega,hmax⟩
 have HOWN:=Yh hown
 obtain ⟨c,rfl⟩:∃ c,cap=a+1+c:=⟨cap - (a+1),by omega⟩
 have hrc:r≤c:=by omega
 clear hown hg hpc hl1 hl2 hcap hmax hA hB
 have e1:((a:Int) == (a:Int)+1)=false:=by simp;omega
 have e2:(a:Int)≤(a:Int)+1+(r:Int):=by omega
 have e3:(a:Int)+1≤(a:Int)+1+(r:Int):=by omega
 have e4:(0:Int)≤(a:Int)+1:=by omega
 have e5:(a:Int)≤(a:Int)+1:=by omega
 have e6:(a:Int)+1+(r:Int)≤(a:Int)+1+(c:Int):=by omega
 have e7:(a:Int)≤(a:Int)+1+(c:Int):=by omega
 have e8:a≤a+1+c:=by omega
 have e9:(a:Int)+1+(r:Int)≤100000:=by omega
 go_enter func159,ntmps159
 go_wp2_with (at_builtin;fail)
 have HC1:Hid (∀ u∈Yad B,u.oneCell'=true):=Yj5 B
 have HSP:Hid (∀ j,j<(Yad B).length→(w.cell? ⟨g,0+a*2+j,none⟩).isSome=true∧w.frozen? ⟨g,0+a*2+j,none⟩=false):=by
  intro j hj;rw [HL.out.2.1] at hj;exact Ywy HOWN.out (by omega)
 have HCC:Hid (∀ j u,(Yad B)[j]? = some u→w.cell? ((⟨g,(a+1)*2,none⟩:Addr).add j)=some u):=fun j u hu=>by
  rw [Addr.add_mid];refine Yal HOWN.out ?_;have hp:Yad (A ++ p :: B)=(Yad A ++ [Value.string p.1,Value.string p.2]) ++ Yad B:=by simp [Yad]
  rw [hp,List.getElem?_append_right (by have:=HL.out.1;simp;omega)];have hx:(a+1)*2+j - (Yad A ++ [Value.string p.1,Value.string p.2]).length=j:=by have:=HL.out.1;simp;omega
  rw [hx];exact hu
 have HW:Hid (∀ t0 t1,([Value.string p.1,Value.string p.2] ++ Yad B).drop (r*2)=[t0,t1]→(w.drew.setCells g (a*2) (Yad B)).heap[g]? = some (.cells ((Yad A ++ Yad B) ++ [t0,t1] ++ rest).toArray 43 (0,0))):=by
  intro t0 t1 ht;have:=Yh6 (w:=w.drew) (g:=g) (t:=43) (Yad A) (([Value.string p.1,Value.string p.2] ++ Yad B).take (r*2)) ([t0,t1] ++ rest) (Yad B) ?_ (by rw [List.length_take];have:=HL.out.2.1;simp;omega)
  ·rw [HL.out.1] at this
   rw [this];simp
  ·refine HG.out.trans ?_
   rw [←ht];congr 3;simp only [List.append_assoc];rw [←List.append_assoc (List.take _ _),List.take_append_drop];simp
 obtain ⟨t0,t1,ht⟩:∃ t0 t1,([Value.string p.1,Value.string p.2] ++ Yad B).drop (r*2)=[t0,t1]:=by
  have hl:(([Value.string p.1,Value.string p.2] ++ Yad B).drop (r*2)).length=2:=by rw [List.length_drop];have:=HL.out.2.1;simp;omega
  match h:([Value.string p.1,Value.string p.2] ++ Yad B).drop (r*2),hl with
  | [t0,t1],_=>exact ⟨t0,t1,rfl⟩
 have HW1:Hid ((w.drew.setCells g (a*2) (Yad B)).heap[g]? = some (.cells ((Yad A ++ Yad B) ++ [t0,t1] ++ rest).toArray 43 (0,0))):=HW.out t0 t1 ht
 have HFR:=Yh (Yiy (Yad B) w.drew g (a*2))
 clear HW ht
 have HFIN:∀ w1:World,w1.heap[g]? = some (.cells ((Yad A ++ Yad B) ++ [t0,t1] ++ rest).toArray 43 (0,0))→(∀ k,k≠g→w1.heap[k]? = w.heap[k]?)→Below 0 w w1 →
  ((w1.setCell ⟨g,(a+r)*2,none⟩ (.string ByteArray.empty)).setCell ⟨g,(a+r)*2+1,none⟩ (.string ByteArray.empty)).ownsRow 0 43 2 (.slice (some ⟨g,0,none⟩) (a+r) (a+1+c)) (a+r) (Yad (A ++ B)) ∧
  (∀ k,k<w.heap.size→k≠g→((w1.setCell ⟨g,(a+r)*2,none⟩ (.string ByteArray.empty)).setCell ⟨g,(a+r)*2+1,none⟩ (.string ByteArray.empty)).heap[k]? = w.heap[k]?)∧Below 0 w ((w1.setCell ⟨g,(a+r)*2,none⟩ (.string ByteArray.empty)).setCell ⟨g,(a+r)*2+1,none⟩ (.string ByteArray.empty)):=by
  intro w1 h1 h2 h3
  obtain ⟨f1,f2⟩:=Yiy [Value.string ByteArray.empty,.string ByteArray.empty] w1 g ((a+r)*2)
  have hL:(Yad A ++ Yad B).length=(a+r)*2:=by rw [List.length_append,HL.out.1,HL.out.2.1];omega
  have h4:=Yh6 (w:=w1) (g:=g) (t:=43) (Yad A ++ Yad B) [t0,t1] rest [Value.string ByteArray.empty,.string ByteArray.empty] h1 rfl
  rw [hL] at h4
  refine ⟨?_,fun k hk hne=>(f1 k hne).trans (h2 k hne),h3.trans f2⟩
  refine Yj7 (rest:=[Value.string ByteArray.empty,.string ByteArray.empty] ++ rest) (Nat.zero_le _) ?_ ?_ ?_ (by omega) HL.out.2.2.2
  ·rw [Yg5,←List.append_assoc];exact h4
  ·rw [Yg5];exact hL
  ·rw [Yg5,hL];have:=HL.out.2.2.1;simp;omega
 have HF:=Yh HFIN
 clear HFIN
 have q1:a+1+r - (a+r)=1:=by omega
 have q2:a+r≤a+1+r:=by omega
 have q3:(a:Int)+(r:Int)≤(a:Int)+1+(r:Int):=by omega
 have q4:a+1+r≤a+1+c:=by omega
 have q5:(0:Int)≤(a:Int)+(r:Int):=by omega
 by_cases h8:c=0
 ·have hr0:r=0:=by omega
  subst h8;subst hr0;have HB:Hid (Yad B=[]):=List.eq_nil_of_length_eq_zero (by have:=HL.out.2.1;omega);go_region_law (first
   | (
    refine step_append_room ?hgd (.tmp 22) (.tmp 25) 34 ?hop 43 i0 2 underlying34 hi0 hz1 g 0 a (a+1) ?hs ⟨g,0,none⟩ 0 0 (Yad B) ?hx ?hn ?hc HC1.out ?hroom HSP.out ?_
    case hgd=>rfl
    case hop=>rfl
    case hs=>go_simp
    case hx=>go_simp
    case hn=>rw [HB.out];rfl
    case hroom=>omega
    case hc=>intro j u hu;rw [HB.out] at hu;simp at hu))
  have hg1:=HW1.out;obtain ⟨hf1,hf2⟩:=HFR.out;have hf3:Below 0 w (w.drew.setCells g (a*2) (Yad B)):=(Below.refl _ _).drew.trans hf2;have hf4:∀ k,k≠g→(w.drew.setCells g (a*2) (Yad B)).heap[k]? = w.heap[k]?:=hf1;revert hg1 hf3 hf4;generalize w.drew.setCells g (a*2) (Yad B)=w1;intro hg1 hf3 hf4;have o123:=HF.out w1 hg1 hf4 hf3;simp only [Nat.add_zero] at o123;obtain ⟨o1,o2,o3⟩:=o123;have hL:(Yad A ++ Yad B).length=a*2:=by rw [List.length_append,HL.out.1,HL.out.2.1];omega
  have c0:w1.cell? ⟨g,a*2,none⟩=some t0:=Yaa hg1 (by simp only [List.getElem?_toArray];rw [List.append_assoc,List.getElem?_append_right (by omega),hL];simp);have c1:w1.cell? ⟨g,a*2+1,none⟩=some t1:=Yaa hg1 (by simp only [List.getElem?_toArray];rw [List.append_assoc,List.getElem?_append_right (by omega),hL];simp);have fz0:=Yah (a*2) hg1;have fz1:=Yah (a*2+1) hg1;have HO:Hid _:=Yh (And.intro o1 (And.intro o2 o3));have hcl:=fun ty cc=>Yqu w1 ty g (a*2) cc t0 t1 c0 c1 fz0 fz1
  clear o1 o2 o3 hg1 hf3 hf4 hf1 hf2 HW1 HFR c0 c1 fz0 fz1;go_wp2;go_ret;exact ⟨rfl,HO.out⟩
 ·have h9:¬(a+1+c=a+1):=by omega
  go_region_law (first
   | (
    refine step_append_room ?hgd (.tmp 22) (.tmp 25) 34 ?hop 43 i0 2 underlying34 hi0 hz1 g 0 a (a+1+c) ?hs ⟨g,(a+1)*2,none⟩ r c (Yad B) ?hx HL.out.2.1 HCC.out HC1.out ?hroom HSP.out ?_
    case hgd=>rfl
    case hop=>rfl
    case hs=>go_simp
    case hx=>go_simp
    case hroom=>omega))
  have hg1:=HW1.out;obtain ⟨hf1,hf2⟩:=HFR.out;have hf3:Below 0 w (w.drew.setCells g (a*2) (Yad B)):=(Below.refl _ _).drew.trans hf2;have hf4:∀ k,k≠g→(w.drew.setCells g (a*2) (Yad B)).heap[k]? = w.heap[k]?:=hf1;revert hg1 hf3 hf4;generalize w.drew.setCells g (a*2) (Yad B)=w1;intro hg1 hf3 hf4;obtain ⟨o1,o2,o3⟩:=HF.out w1 hg1 hf4 hf3;have hL:(Yad A ++ Yad B).length=(a+r)*2:=by rw [List.length_append,HL.out.1,HL.out.2.1];omega
  have c0:w1.cell? ⟨g,(a+r)*2,none⟩=some t0:=Yaa hg1 (by simp only [List.getElem?_toArray];rw [List.append_assoc,List.getElem?_append_right (by omega),hL];simp);have c1:w1.cell? ⟨g,(a+r)*2+1,none⟩=some t1:=Yaa hg1 (by simp only [List.getElem?_toArray];rw [List.append_assoc,List.getElem?_append_right (by omega),hL];simp);have fz0:=Yah ((a+r)*2) hg1;have fz1:=Yah ((a+r)*2+1) hg1;have HO:Hid _:=Yh (And.intro o1 (And.intro o2 o3));have hcl:=fun ty cc=>Yqu w1 ty g ((a+r)*2) cc t0 t1 c0 c1 fz0 fz1
  clear o1 o2 o3 hg1 hf3 hf4 hf1 hf2 HW1 HFR c0 c1 fz0 fz1;go_wp2;go_ret;exact ⟨rfl,HO.out⟩
theorem Yj8 {P:Program} (w:World) (dT sT ty elem:TypeId) (size b o dLen dCap:Nat) (a:Addr) (sLen sCap n:Nat) (cs:List Value)
 (hu:P.underlying dT=some (.slice elem)) (hs:(P.info? elem).map (·.size)=some size) (hm:Nat.min sLen dLen=n) (hn:cs.length=n*size)
 (hsrc:∀ j v,cs[j]? = some v→w.cell? (a.add j)=some v) (hc:∀ j,j<cs.length→(w.cell? ⟨b,o+j,none⟩).isSome=true) (hf:∀ j,j<cs.length→w.frozen? ⟨b,o+j,none⟩=false) (h1:∀ v∈cs,v.oneCell'=true):
 (Builtin.copy_ #[dT,sT] ty #[.slice (some ⟨b,o,none⟩) dLen dCap,.slice (some a) sLen sCap]).run P w=.ok (goInt n) (w.setCells b o cs):=by
 have hl:=run_loadCells_list (P:=P) w a cs hsrc
 have hst:=run_storeCells_cells (P:=P) b o cs 0 w (by simpa using hc) (by simpa using hf) h1
 cases hq:P.info? elem with
 | none=>simp [hq] at hs
 | some i=>
  have hi:i.size=size:=by simpa [hq] using hs
  simp [Builtin.copy_,run_underlying hu,Builtin.lenOf,Builtin.firstCells,sizeOf,typeInfo,hq,hi,hm,←hn,hl,hst]
theorem Yw0 {ops:Array Oper} {rest:List Oper} {o:Oper} {ac:Act} {Q:Exit→Act→World→Prop} (hgd:o.guard=none) (s x:Operand)
 (ho:o.op=.call { callee:=.builtin .append,args:=#[s,x],argTypes:=#[34,34] }) (base:Nat) (v:Value) (l:Yaf) (n:Nat) (hln:l.length=n) (hs:ac.eval s=v) (hown:w.ownsRow base 43 2 v n (Yad l))
 (g:Nat) (a b:ByteArray) (hx:ac.eval x=.slice (some ⟨g,0,none⟩) 1 1) (hg:w.heap[g]? = some (.cells #[.string a,.string b] 43 (0,0))) (hlen:n≤1000000) (hbase:base≤w.heap.size)
 (h:∀ v' w',w'.ownsRow base 43 2 v' (n+1) (Yad (l ++ [(a,b)]))→w.grownBy w' v.ownBlock→(v'.ownBlock=v.ownBlock∨v'.ownBlock=some w.heap.size)→wpList prog ops Q rest (ac.put o.dst v') w'):wpList prog ops Q (o :: rest) ac w:=by
 subst hln
 obtain ⟨i0,hi,hz0,hz1,hz2⟩:=info_parts Ygj
 refine wpList_append_own_at w hgd s x 34 ho base 43 i0 _ 2 32 underlying34 hi hz0 hz1 hz2 rfl (by decide) v l.length (Yad l) hs hown ⟨g,0,none⟩ 1 1 [.string a,.string b] hx rfl (fun j u hu=>by rw [Ydf];exact Yaa hg (by simpa using hu)) (fun x hx=>by simp at hx;rcases hx with rfl | rfl <;> rfl) (by unfold maxLen;omega) (by omega) hbase ?_
 intro v' w' h1 h2 _ h4
 exact h v' w' (by have:=Ypj h1;simpa using this) h2 h4
def Ygp (w w':World) (v v':Value) (n:Nat) (l:Yaf):Prop:=w'.ownsRow 0 43 2 v' n (Yad l)∧(∀ k,k<w.heap.size→v.ownBlock≠some k→w'.heap[k]? = w.heap[k]?)∧(v'.ownBlock=v.ownBlock∨∃ k,w.heap.size≤k∧v'.ownBlock=some k)∧Below 0 w w'
theorem Yw1 (v:Value) (a:Nat) (A:Yaf) (p:ByteArray×ByteArray) (gv:Nat) (w:World) (hA:A.length=a) (hown:w.ownsRow 0 43 2 v a (Yad A)) (hgv:w.heap[gv]? = some (.cells #[.string p.1,.string p.2] 43 (0,0))) (hlen:a≤100000):
 Calls prog 160 #[v,.int .i64 a,.slice (some ⟨gv,0,none⟩) 1 1] w fun e w'=>∃ v',e=.returned v'∧Ygp w w' v v' (a+1) (A ++ [p]):=by
 obtain ⟨ad,cap,rfl,_⟩:=Ya6 hown
 have hcap:a≤cap:=by
  rcases hown.2 with ⟨h,h0⟩ | ⟨g',cap',cur,h1,h2,h3,h4,h5,h6,h7⟩
  ·omega
  ·simp at h1;omega
 have e1:(a:Int)≤(a:Int):=by omega
 have e2:(a:Int)≤100000:=by omega
 have HO:=Yh hown
 have HG:=Yh hgv
 clear hown hgv
 by_cases hca:cap=a
 all_goals
  (try subst hca);go_enter func160,ntmps160;go_wp2_with (first | (at_builtin;go_must (
   refine Yw0 rfl _ _ rfl 0 _ A _ hA rfl HO.out gv p.1 p.2 rfl HG.out (by omega) (by omega) ?_;intro v4 w4 hown4 hg4 hat4;have hg5:w.grownBy w4 (Value.slice ad 0 0).ownBlock:=by cases ad <;> exact hg4
   have hat5:v4.ownBlock=(Value.slice ad 0 0).ownBlock∨v4.ownBlock=some w.heap.size:=by cases ad <;> exact hat4
   clear hg4 hat4)))
  all_goals
   go_ret;refine ⟨_,rfl,hown4,fun k hk hne=>hg5.block k hk (fun e=>hne (by cases ad <;> exact e.symm)),?_,⟨hg5.os,hg5.tape,hg5.output,hg5.size,fun k hk=>by omega⟩⟩;rcases hat5 with h | h
   ·refine .inl ?_
    cases ad <;> exact h
   ·exact .inr ⟨_,Nat.le_refl _,h⟩
theorem Yqv {b:Nat} {cs:Array Value} {fz:Nat×Nat} (h:w.heap[b]? = some (.cells cs t fz)):w.shape? b=some (t,cs.size):=by
 simp [World.shape?,h]
theorem Yw2 (g cap a r:Nat) (A B:Yaf) (p:ByteArray×ByteArray) (gv:Nat) (w:World) (hA:A.length=a) (hB:B.length=r+1) (hown:w.ownsRow 0 43 2 (.slice (some ⟨g,0,none⟩) (a+1+r) cap) (a+1+r) (Yad (A ++ B))) (hgv:w.heap[gv]? = some (.cells #[.string p.1,.string p.2] 43 (0,0)))
 (hne:gv≠g) (hlen:a+1+r≤100000) (hroom:a+1+r<cap):
 Calls prog 160 #[.slice (some ⟨g,0,none⟩) (a+1+r) cap,.int .i64 a,.slice (some ⟨gv,0,none⟩) 1 1] w fun e w'=>∃ v',e=.returned v'∧Ygp w w' (.slice (some ⟨g,0,none⟩) (a+1+r) cap) v' (a+1+r+1) (A ++ p :: B):=by
 obtain ⟨i0,hi0,hz0,hz1,hz2⟩:=info_parts Ygj
 obtain ⟨rest,hg,hl1,hl2,hcap,hmax⟩:=Yj6 hown
 obtain ⟨c,rfl⟩:∃ c,cap=a+1+r+1+c:=⟨cap - (a+1+r+1),by omega⟩
 have HG:Hid (w.heap[g]? = some (.cells (Yad (A ++ B) ++ rest).toArray 43 (0,0))∧w.heap[gv]? = some (.cells #[.string p.1,.string p.2] 43 (0,0))):=⟨hg,hgv⟩
 have HL:Hid ((Yad A).length=a*2∧(Yad B).length=(r+1)*2∧rest.length=(c+1)*2∧a+1+r+1+c≤maxLen):=⟨by rw [Yds,hA],by rw [Yds,hB],by omega,hmax⟩
 clear hown hg hl1 hl2 hcap hmax hA hB hroom hgv
 have e1:(a:Int)≤(a:Int)+1+(r:Int):=by omega
 have e2:((a:Int) == (a:Int)+1+(r:Int))=false:=by simp;omega
 have e3:¬((a:Int)+1+(r:Int)+1+(c:Int)<(a:Int)+1+(r:Int)+1):=by omega
 have e4:(a:Int)+1+(r:Int)+1≤(a:Int)+1+(r:Int)+1+(c:Int):=by omega
 have e5:(a:Int)+1≤(a:Int)+1+(r:Int)+1:=by omega
 have e6:(0:Int)≤(a:Int)+1:=by omega
 have e7:(0:Int)≤(a:Int)+1+(r:Int)+1:=by omega
 have e8:(a:Int)≤(a:Int)+1+(r:Int)+1:=by omega
 have e9:(a:Int)+1+(r:Int)≤100000:=by omega
 have hszP:∀ w,(Go.sizeOf 43).run prog w=.ok 2 w:=fun w=>by simp [Go.sizeOf,typeInfo,hi0,hz1]
 have hov:∀ lb cb,(callFunc 207 #[.slice (some ⟨gv,0,none⟩) 1 1,.slice (some ⟨g,(a+1)*2,none⟩) lb cb]).run prog w=.ok (.value (.bool false)) w:=fun lb cb=>by
  rw [run_callFunc_extern func207 (by kernel_rfl) (by kernel_rfl) (by kernel_rfl) (e:=Extern.SlicesOverlaps.overlaps #[34,34] #[4]) (by kernel_rfl),
   Lib.run_overlaps_apart w 34 4 43 underlying34 2 hszP ⟨gv,0,none⟩ ⟨g,(a+1)*2,none⟩ 1 1 lb cb hne 43 43 _ _ (Yqv HG.out.2) (Yqv HG.out.1) (by have h1:=HL.out.2.2.1;rw [List.size_toArray,List.length_append];omega) (Yah 0 HG.out.2) (Yah _ HG.out.2)]
  rfl
 go_enter func160,ntmps160
 go_wp2_with (simp only [hov])
 have hszM:(prog.info? 43).map (·.size)=some 2:=by rw [hi0];simp [hz1]
 obtain ⟨b0,B',rfl⟩:∃ b0 B',B=b0 :: B':=by
  match B,HL with
  | [],HL=>have:=HL.out.2.1;simp [Yad] at this
  | b0 :: B',_=>exact ⟨b0,B',rfl⟩
 obtain ⟨x0,x1,rest',rfl⟩:∃ x0 x1 rest',rest=x0 :: x1 :: rest':=by
  match rest,HL with
  | [],HL=>have:=HL.out.2.2.1;simp at this
  | [x0],HL=>have:=HL.out.2.2.1;simp at this;omega
  | x0 :: x1 :: rest',_=>exact ⟨x0,x1,rest',rfl⟩
 have HB':Hid ((Yad B').length=r*2∧rest'.length=c*2):=by
  have h1:=HL.out.2.1;have h2:=HL.out.2.2.1;rw [Yds] at h1;simp at h1 h2;exact ⟨by rw [Yds];omega,by omega⟩
 have HG0:Hid (w.drew.heap[g]? = some (.cells (Yad A ++ [Value.string b0.1,.string b0.2] ++ (Yad B' ++ [x0,x1]) ++ rest').toArray 43 (0,0))):=by
  show _=_;refine HG.out.1.trans ?_;simp [Yad]
 have HG1:Hid ((w.drew.setCells g ((a+1)*2) (Yad (b0 :: B'))).heap[g]? = some (.cells (Yad A ++ [Value.string b0.1,.string b0.2] ++ Yad (b0 :: B') ++ rest').toArray 43 (0,0))):=by
  have:=Yh6 (w:=w.drew) (g:=g) (t:=43) (Yad A ++ [Value.string b0.1,.string b0.2]) (Yad B' ++ [x0,x1]) rest' (Yad (b0 :: B')) HG0.out (by have h1:=HL.out.2.1;have h2:=HB'.out.1;rw [h1,List.length_append,h2];simp;omega);have hl:(Yad A ++ [Value.string b0.1,.string b0.2]).length=(a+1)*2:=by rw [List.length_append,HL.out.1];simp;omega
  rw [hl] at this;exact this
 have HC1:Hid (∀ j,j<(Yad (b0 :: B')).length→(w.drew.cell? ⟨g,(a+1)*2+j,none⟩).isSome=true):=by
  intro j hj;have h1:=HL.out.2.1;rw [Yaa HG0.out (Array.getElem?_eq_getElem (show (a+1)*2+j<_ by have h2:=HL.out.1;have h3:=HB'.out;simp;omega))];rfl
 have hcp1:∀ ty dl dc sl sc,dl=r+1→sl=r+2→(Builtin.copy_ #[34,34] ty #[.slice (some ⟨g,(a+1)*2,none⟩) dl dc,.slice (some ⟨g,a*2,none⟩) sl sc]).run prog w.drew=.ok (goInt (r+1:Nat)) (w.drew.setCells g ((a+1)*2) (Yad (b0 :: B'))):=fun ty dl dc sl sc hdl hsl=>by
  refine Yj8 w.drew _ _ ty 43 2 g ((a+1)*2) dl dc ⟨g,a*2,none⟩ sl sc (r+1) (Yad (b0 :: B')) underlying34 hszM (by simp only [Nat.min_def];split <;> omega) HL.out.2.1 (fun j v hj=>?_) HC1.out (fun j hj=>Yah _ HG0.out) (Yj5 _);rw [Addr.add_mid];refine Yaa HG.out.1 ?_;rw [List.getElem?_toArray,Yg5,List.append_assoc,List.getElem?_append_right (by rw [HL.out.1];omega),HL.out.1,show a*2+j - a*2=j by omega,List.getElem?_append_left ((List.getElem?_eq_some_iff.1 hj).1)];exact hj
 have HCP1:=Yh hcp1
 obtain ⟨W1,hW1⟩:∃ W1,W1=w.drew.setCells g ((a+1)*2) (Yad (b0 :: B')):=⟨_,rfl⟩
 rw [←hW1] at HG1 HCP1
 have HF1:Hid ((∀ k,k≠g→W1.heap[k]? = w.heap[k]?)∧Below 0 w W1):=by
  obtain ⟨f1,f2⟩:=Yiy (Yad (b0 :: B')) w.drew g ((a+1)*2);rw [hW1];exact ⟨f1,(Below.refl _ _).drew.trans f2⟩
 clear hcp1 hW1 HC1
 have hcp2:∀ ty dl dc,1≤dl→(Builtin.copy_ #[34,34] ty #[.slice (some ⟨g,a*2,none⟩) dl dc,.slice (some ⟨gv,0,none⟩) 1 1]).run prog W1=.ok (goInt (1:Nat)) (W1.setCells g (a*2) [.string p.1,.string p.2]):=fun ty dl dc hdl=>by
  have hgv1:=(HF1.out.1 gv hne).trans HG.out.2;refine Yj8 W1 _ _ ty 43 2 g (a*2) dl dc ⟨gv,0,none⟩ 1 1 1 [.string p.1,.string p.2] underlying34 hszM (by simp only [Nat.min_def];split <;> omega) rfl (fun j v hj=>?_) (fun j hj=>?_) (fun j hj=>Yah _ HG1.out) (by intro v hv;simp at hv;rcases hv with rfl | rfl <;> rfl)
  ·rw [Ydf];exact Yaa hgv1 (by simpa using hj)
  ·rw [Yaa HG1.out (Array.getElem?_eq_getElem (show a*2+j<_ by have h2:=HL.out.1;simp at hj ⊢;omega))]
   rfl
 have HCP2:=Yh hcp2
 clear hcp2
 have HFIN:Hid (Ygp w (W1.setCells g (a*2) [.string p.1,.string p.2]) (.slice (some ⟨g,0,none⟩) (a+1+r) (a+1+r+1+c)) (.slice (some ⟨g,0,none⟩) (a+1+r+1) (a+1+r+1+c)) (a+1+r+1) (A ++ p :: b0 :: B')):=by
  obtain ⟨f1,f2⟩:=Yiy [Value.string p.1,.string p.2] W1 g (a*2);refine ⟨?_,fun k _ hk=>(f1 k (fun e=>hk (by rw [e];rfl))).trans (HF1.out.1 k (fun e=>hk (by rw [e];rfl))),.inl rfl,HF1.out.2.trans f2⟩;have h4:=Yh6 (w:=W1) (g:=g) (t:=43) (Yad A) [Value.string b0.1,.string b0.2] (Yad (b0 :: B') ++ rest') [Value.string p.1,.string p.2] (HG1.out.trans (by simp)) rfl;rw [HL.out.1] at h4;refine Yj7 (rest:=rest') (Nat.zero_le _) (h4.trans (by simp [Yad])) ?_ ?_ (by omega) HL.out.2.2.2
  ·have h1:=HL.out.1;have h2:=HL.out.2.1
   rw [Yds] at h1 h2 ⊢;simp at h1 h2 ⊢;omega
  ·have h1:=HL.out.1;have h2:=HL.out.2.1;have h3:=HB'.out.2
   rw [Yds] at h1 h2 ⊢;simp at h1 h2 ⊢;omega
 have q1:¬(a+1+r+1+c=a+1):=by omega
 have q2:¬(a+1+r+1+c=a):=by omega
 have q3:a≤a+1+r+1:=by omega
 have q4:a+1≤a+1+r+1:=by omega
 have q5:IntKind.i64.wrap ((a:Int)+1)=(a:Int)+1:=by rw [IntKind.wrap_i64];omega
 have q6:((a:Int)+1).toNat=a+1:=by omega
 have hq:∀ ty dc sc,Sem.run prog (Builtin.copy_ #[34,34] ty #[.slice (some ⟨g,(a+1)*2,none⟩) (a+1+r - a) dc,.slice (some ⟨g,a*2,none⟩) (a+1+r+1 - a) sc]) w.drew=.ok (goInt (r+1:Nat)) W1:=fun ty dc sc=>HCP1.out ty _ dc _ sc (by omega) (by omega)
 go_region
 clear hq
 have hq2:∀ ty dc,Sem.run prog (Builtin.copy_ #[34,34] ty #[.slice (some ⟨g,a*2,none⟩) (a+1+r+1 - a) dc,.slice (some ⟨gv,0,none⟩) 1 1]) W1=.ok (goInt (1:Nat)) (W1.setCells g (a*2) [.string p.1,.string p.2]):=fun ty dc=>HCP2.out ty _ dc (by omega)
 go_wp2
 go_ret
 exact ⟨_,rfl,HFIN.out⟩
def Yd9 (n:Nat):List Value:=Yad (List.replicate n (ByteArray.empty,ByteArray.empty))
theorem Yiz (n:Nat):(Yd9 n).length=n*2:=by rw [Yd9,Yds,List.length_replicate]
theorem Yw3 (n:Nat):Builtin.zeroCells (Value.agg #[.string ByteArray.empty,.string ByteArray.empty]).cells n=(Yd9 n).toArray:=by
 apply Array.ext
 ·simp [size_zeroCells,Value.cells,Yiz]
 ·intro i h1 h2
  have hi:i<n*2:=by simpa [Yiz] using h2
  have hv:(Yd9 n)[i]? = some (.string ByteArray.empty):=by
   obtain ⟨h3,h4⟩:=Ye2 (List.replicate n (ByteArray.empty,ByteArray.empty)) (i / 2) (ByteArray.empty,ByteArray.empty) (by rw [List.getElem?_replicate,if_pos (by omega)]);rcases Nat.mod_two_eq_zero_or_one i with h | h
   ·rw [show i=i / 2*2 by omega];exact h3
   ·rw [show i=i / 2*2+1 by omega];exact h4
  have hv':(Yd9 n).toArray[i]=Value.string ByteArray.empty:=by
   have:=List.getElem?_eq_some_iff.1 hv;obtain ⟨_,h⟩:=this;simpa using h
  rw [hv'];simp only [Builtin.zeroCells,Value.cells,Array.getElem_map,Array.getElem_range];rcases Nat.mod_two_eq_zero_or_one i with h | h
  ·simp [h]
  ·simp [h]
theorem Yw4 {k:Nat} (n:Nat) (ty:TypeId) (hown:w.ownsRow 0 43 2 (.slice (some ⟨g,0,none⟩) k cap) k xs) (hs:k+n≤1000000) (hc:cap<k+n):
 ∃ c rest,(Builtin.append_ #[34,3] ty #[.slice (some ⟨g,0,none⟩) k cap,.int .i64 n]).run prog w=.ok (.slice (some ⟨w.heap.size,0,none⟩) (k+n) c) (w.drew.alloc (.cells (xs ++ Yd9 n ++ rest).toArray 43 (0,0)))∧(k+n)*2+rest.length=c*2∧k+n≤c∧c≤maxLen:=by
 obtain ⟨i,hi,hz,h1,hy⟩:=info_parts Ygj
 have ht:=underlying34
 have hu:=underlying3
 have hw:IntKind.i64.wrap (n:Int)=n:=by rw [IntKind.wrap_i64];omega
 have hneg:¬((n:Int)<0):=by omega
 have h48i:¬(281474976710656<(n:Int)*32):=by omega
 have hcl:grownCap w (k+n) cap 43≤maxLen:=grownCap_le_maxLen w _ _ 43 (by unfold maxLen;omega)
 have hge:=grownCap_ge w (k+n) cap 43
 refine ⟨grownCap w (k+n) cap 43,Yd9 (grownCap w (k+n) cap 43 - (k+n)),?_,by rw [Yiz];omega,hge,hcl⟩
 have hn:¬(k+n≤cap):=by omega
 have h63':¬(9223372036854775807<((k:Int)+(n:Int))):=by omega
 have hf:(Builtin.firstCells 2 k (.slice (some ⟨g,0,none⟩) k cap)).run prog w.drew=.ok xs.toArray w.drew:=by
  exact run_firstCells_some (P:=prog) w.drew 2 k ⟨g,0,none⟩ k cap xs (by simpa using hown.1) (by simpa using hown.cells (g:=g) rfl)
 have h0:¬n=0:=by
  rcases hown.2 with ⟨h,_⟩ | ⟨g',cap',cur,h,_,hg,hle,_,_,htake⟩
  ·cases h
  ·simp at h;omega
 have h48':¬(281474976710656<Builtin.nextslicecap (k+n) cap*32):=by
  have:=growslice_fits (bytes:=32) hc (by omega);omega
 simp [Builtin.append_,run_underlying ht,run_underlying hu,sizeOf,typeInfo,zeroValue,hi,hz,h1,hy,asInt,asIntOf,hw,hneg,h48i,hn,h63',h48',Yw3,Question.forced,hf,newRow,grownCap]
 intro h
 omega
theorem Yw5 (g a r:Nat) (A B:Yaf) (p:ByteArray×ByteArray) (gv:Nat) (w:World) (hA:A.length=a) (hB:B.length=r+1) (hown:w.ownsRow 0 43 2 (.slice (some ⟨g,0,none⟩) (a+1+r) (a+1+r)) (a+1+r) (Yad (A ++ B))) (hgv:w.heap[gv]? = some (.cells #[.string p.1,.string p.2] 43 (0,0)))
 (hlen:a+1+r≤100000):
 Calls prog 160 #[.slice (some ⟨g,0,none⟩) (a+1+r) (a+1+r),.int .i64 a,.slice (some ⟨gv,0,none⟩) 1 1] w fun e w'=>∃ v',e=.returned v'∧Ygp w w' (.slice (some ⟨g,0,none⟩) (a+1+r) (a+1+r)) v' (a+1+r+1) (A ++ p :: B):=by
 obtain ⟨i0,hi0,hz0,hz1,hz2⟩:=info_parts Ygj
 obtain ⟨rest,hg,hl1,hl2,hcap,hmax⟩:=Yj6 hown
 obtain rfl:rest=[]:=List.eq_nil_of_length_eq_zero (by omega)
 have HL:Hid ((Yad A).length=a*2∧(Yad B).length=(r+1)*2):=⟨by rw [Yds,hA],by rw [Yds,hB]⟩
 have hownA:w.ownsRow 0 43 2 (.slice (some ⟨g,0,none⟩) a (a+1+r)) a (Yad A):=by
  refine Yj7 (rest:=Yad B) (Nat.zero_le _) (hg.trans (by rw [Yg5];simp)) HL.out.1 (by rw [HL.out.1,HL.out.2];omega) (by omega) hmax
 have HG:Hid (w.heap[g]? = some (.cells (Yad A ++ Yad B).toArray 43 (0,0))∧w.heap[gv]? = some (.cells #[.string p.1,.string p.2] 43 (0,0))):=⟨hg.trans (by rw [Yg5];simp),hgv⟩
 have HOA:=Yh hownA
 clear hown hg hl1 hl2 hcap hmax hA hB hgv hownA
 have e1:(a:Int)≤(a:Int)+1+(r:Int):=by omega
 have e2:((a:Int) == (a:Int)+1+(r:Int))=false:=by simp;omega
 have e3:(a:Int)+1+(r:Int)<(a:Int)+1+(r:Int)+1:=by omega
 have e4:a≤a+1+r:=by omega
 have e9:(a:Int)+1+(r:Int)≤100000:=by omega
 have e5:(a:Int)+1+(r:Int)+1 - (a:Int)=((r+2:Nat):Int):=by omega
 have hszM:(prog.info? 43).map (·.size)=some 2:=by rw [hi0];simp [hz1]
 have hap:=fun ty=>Yw4 (r+2) ty HOA.out (by omega) (by omega)
 obtain ⟨c,rest,hr0,hc1,hc2,hc3⟩:=hap 34
 have HCC:Hid ((a+(r+2))*2+rest.length=c*2∧a+(r+2)≤c∧c≤maxLen):=⟨hc1,hc2,hc3⟩
 have q1:¬(c=a):=by omega
 have q2:¬(c=a+1):=by omega
 obtain ⟨W0,hW0⟩:∃ W0,W0=w.drew.alloc (.cells (Yad A ++ Yd9 (r+2) ++ rest).toArray 43 (0,0)):=⟨_,rfl⟩
 rw [←hW0] at hr0
 have HA:=Yh hr0
 have hB0:Below w.heap.size w W0:=by rw [hW0];exact (Below.refl _ _).drew.alloc (Nat.le_refl _) _
 have hz0':W0.heap.size=w.heap.size+1:=by rw [hW0];simp
 have hN0:W0.heap[w.heap.size]? = some (.cells (Yad A ++ Yd9 (r+2) ++ rest).toArray 43 (0,0)):=by rw [hW0];exact heap_alloc_new w.drew _
 have hep:Yd9 (r+2)=[Value.string ByteArray.empty,.string ByteArray.empty] ++ Yd9 (r+1):=by simp [Yd9,Yad,List.replicate_succ]
 have hgv0:=(hB0.block gv (Yaj HG.out.2)).trans HG.out.2
 have hg0:=(hB0.block g (Yaj HG.out.1)).trans HG.out.1
 have hgw:=Yaj HG.out.1
 have hcp1:∀ ty dc,Sem.run prog (Builtin.copy_ #[34,34] ty #[.slice (some ⟨w.heap.size,a*2,none⟩) (r+2) dc,.slice (some ⟨gv,0,none⟩) 1 1]) W0=.ok (goInt (1:Nat)) (W0.setCells w.heap.size (a*2) [.string p.1,.string p.2]):=fun ty dc=>by
  refine Yj8 W0 _ _ ty 43 2 w.heap.size (a*2) (r+2) dc ⟨gv,0,none⟩ 1 1 1 [.string p.1,.string p.2] underlying34 hszM (by simp only [Nat.min_def];split <;> omega) rfl (fun j v hj=>?_) (fun j hj=>?_) (fun j hj=>Yah _ hN0) (by intro v hv;simp at hv;rcases hv with rfl | rfl <;> rfl)
  ·rw [Ydf];exact Yaa hgv0 (by simpa using hj)
  ·rw [Yaa hN0 (Array.getElem?_eq_getElem (show a*2+j<_ by have h2:=HL.out.1;have h3:=Yiz (r+2);simp at hj ⊢;omega))]
   rfl
 obtain ⟨W1,hW1⟩:∃ W1,W1=W0.setCells w.heap.size (a*2) [.string p.1,.string p.2]:=⟨_,rfl⟩
 have hN1:W1.heap[w.heap.size]? = some (.cells (Yad A ++ [Value.string p.1,.string p.2] ++ Yd9 (r+1) ++ rest).toArray 43 (0,0)):=by
  have h4:=Yh6 (w:=W0) (g:=w.heap.size) (t:=43) (Yad A) [Value.string ByteArray.empty,.string ByteArray.empty] (Yd9 (r+1) ++ rest) [Value.string p.1,.string p.2] (hN0.trans (by rw [hep];simp)) rfl;rw [HL.out.1] at h4;rw [hW1,h4];simp
 obtain ⟨f1,f2⟩:=Yiy [Value.string p.1,.string p.2] W0 w.heap.size (a*2)
 rw [←hW1] at hcp1 f1 f2
 have hg1:=(f1 g (by omega)).trans hg0
 have hcp2:∀ (W:World),W.heap=W1.heap→∀ ty dl dc sl sc,dl=r+1→sl=r+1→Sem.run prog (Builtin.copy_ #[34,34] ty #[.slice (some ⟨w.heap.size,(a+1)*2,none⟩) dl dc,.slice (some ⟨g,a*2,none⟩) sl sc]) W=.ok (goInt (r+1:Nat)) (W.setCells w.heap.size ((a+1)*2) (Yad B)):=fun W hW ty dl dc sl sc hdl hsl=>by
  have hNW:=(congrArg (fun h=>h[w.heap.size]?) hW).trans hN1;have hgW:=(congrArg (fun h=>h[g]?) hW).trans hg1;refine Yj8 W _ _ ty 43 2 w.heap.size ((a+1)*2) dl dc ⟨g,a*2,none⟩ sl sc (r+1) (Yad B) underlying34 hszM (by simp only [Nat.min_def];split <;> omega) HL.out.2 (fun j v hj=>?_) (fun j hj=>?_) (fun j hj=>Yah _ hNW) (Yj5 _)
  ·rw [Addr.add_mid]
   refine Yaa hgW ?_;rw [List.getElem?_toArray,List.getElem?_append_right (by rw [HL.out.1];omega),HL.out.1,show a*2+j - a*2=j by omega];exact hj
  ·rw [Yaa hNW (Array.getElem?_eq_getElem (show (a+1)*2+j<_ by have h1:=HL.out.1;have h2:=HL.out.2;have h3:=Yiz (r+1);simp;omega))]
   rfl
 have HCP2:=Yh hcp2
 have HFIN:Hid (∀ W:World,W.heap=W1.heap→Below 0 W1 W→Ygp w (W.setCells w.heap.size ((a+1)*2) (Yad B)) (.slice (some ⟨g,0,none⟩) (a+1+r) (a+1+r)) (.slice (some ⟨w.heap.size,0,none⟩) (a+(r+2)) c) (a+1+r+1) (A ++ p :: B)):=by
  intro W hW hBW;have hNW:=(congrArg (fun h=>h[w.heap.size]?) hW).trans hN1;obtain ⟨k1,k2⟩:=Yiy (Yad B) W w.heap.size ((a+1)*2);refine ⟨?_,fun k hk hne=>?_,.inr ⟨w.heap.size,Nat.le_refl _,rfl⟩,((hB0.mono (Nat.zero_le _)).trans (f2.trans (hBW.trans k2)))⟩
  ·have h4:=Yh6 (w:=W) (g:=w.heap.size) (t:=43) (Yad A ++ [Value.string p.1,.string p.2]) (Yd9 (r+1)) rest (Yad B) hNW (by rw [HL.out.2,Yiz])
   have hl:(Yad A ++ [Value.string p.1,.string p.2]).length=(a+1)*2:=by rw [List.length_append,HL.out.1];simp;omega
   rw [hl] at h4;rw [show a+1+r+1=a+(r+2) by omega];refine Yj7 (rest:=rest) (Nat.zero_le _) (h4.trans (by simp [Yad])) ?_ ?_ HCC.out.2.1 HCC.out.2.2
   ·have h1:=HL.out.1;have h2:=HL.out.2
    rw [Yds] at h1 h2 ⊢;simp at h1 h2 ⊢;omega
   ·have h1:=HL.out.1;have h2:=HL.out.2;have h3:=HCC.out.1
    rw [Yds] at h1 h2 ⊢;simp at h1 h2 ⊢;omega
  ·rw [k1 k (by omega),hW,f1 k (by omega)]
   exact hB0.block k hk
 clear hr0 hc1 hc2 hc3 hW0 hW1 hN0 hN1 hgv0 hg0 hg1 f1 f2 hB0 hep hcp2 hap
 go_enter func160,ntmps160
 go_wp2_with (first | (at_builtin;go_must (refine Lib.wpList_append_run _ rfl _ _ 34 3 rfl _ _ rfl rfl _ _ HA.out ?_)))
 have q3:IntKind.i64.wrap ((a:Int)+1)=(a:Int)+1:=by rw [IntKind.wrap_i64];omega
 have q4:((a:Int)+1).toNat=a+1:=by omega
 have q5:(0:Int)≤(a:Int)+1:=by omega
 have q6:(a:Int)+1≤(a:Int)+((r:Int)+2):=by omega
 have q7:(a:Int)≤(a:Int)+1+(r:Int):=by omega
 have q8:¬(a+1+r=a):=by omega
 have q9:a+(r+2) - (a+1)=r+1:=by omega
 have q10:a+1+r - a=r+1:=by omega
 have hq:∀ ty dc sc,Sem.run prog (Builtin.copy_ #[34,34] ty #[.slice (some ⟨w.heap.size,(a+1)*2,none⟩) (r+1) dc,.slice (some ⟨g,a*2,none⟩) (r+1) sc]) W1.drew=.ok (goInt (r+1:Nat)) (W1.drew.setCells w.heap.size ((a+1)*2) (Yad B)):=fun ty dc sc=>HCP2.out W1.drew rfl ty _ dc _ sc rfl rfl
 go_region
 go_wp2
 go_ret
 exact ⟨_,rfl,HFIN.out W1.drew rfl (Below.refl _ _).drew⟩
theorem Yw6 (v:Value) (a r:Nat) (A B:Yaf) (p:ByteArray×ByteArray) (gv:Nat) (w:World) (hA:A.length=a) (hB:B.length=r) (hown:w.ownsRow 0 43 2 v (a+r) (Yad (A ++ B))) (hgv:w.heap[gv]? = some (.cells #[.string p.1,.string p.2] 43 (0,0)))
 (hne:v.ownBlock≠some gv) (hlen:a+r≤100000):
 Calls prog 160 #[v,.int .i64 a,.slice (some ⟨gv,0,none⟩) 1 1] w fun e w'=>∃ v',e=.returned v'∧Ygp w w' v v' (a+r+1) (A ++ p :: B):=by
 match r,hB with
 | 0,hB=>
  obtain rfl:B=[]:=List.eq_nil_of_length_eq_zero hB;simp only [List.append_nil,Nat.add_zero] at hown ⊢;exact Yw1 v a A p gv w hA hown hgv (by omega)
 | r+1,hB=>
  rw [show a+(r+1)=a+1+r by omega] at hown hlen ⊢;obtain ⟨g,cap,rfl⟩:=Ybn hown (by omega);by_cases hroom:a+1+r<cap
  ·exact Yw2 g cap a r A B p gv w hA hB hown hgv (fun e=>hne (by rw [e];rfl)) hlen hroom
  ·obtain rfl:cap=a+1+r:=by
    obtain ⟨_,_,_,_,h,_⟩:=Yj6 hown;omega
   exact Yw5 g a r A B p gv w hA hB hown hgv hlen
theorem Yi0 (key val:ByteArray):∀ (A:Yaf) (out:Yaf) (d:Bool),(∀ p∈A,blt p.1 key)→A.foldl (Yby key val) (out,d)=(out ++ A,d)
 | [],out,d,_=>by simp
 | p :: r,out,d,h=>by
  have hp:=h p (by simp);have h1:p.1≠key:=Yek hp;have h2:¬key.toList<p.1.toList:=fun hc=>Yiv _ (Yh3 hp hc)
  have hs:Yby key val (out,d) p=(out ++ [p],d):=by simp [Yby,h1,h2,Ne.symm h1]
  rw [List.foldl_cons,hs,Yi0 key val r _ d (fun q hq=>h q (by simp [hq]))];simp
theorem Yj9 (key val:ByteArray):∀ (B:Yaf) (out:Yaf),(∀ p∈B,blt key p.1)→B.foldl (Yby key val) (out,true)=(out ++ B,true)
 | [],out,_=>by simp
 | p :: r,out,h=>by
  have h1:p.1≠key:=fun e=>Yek (h p (by simp)) e.symm
  have hs:Yby key val (out,true) p=(out ++ [p],true):=by simp [Yby,h1]
  rw [List.foldl_cons,hs,Yj9 key val r _ (fun q hq=>h q (by simp [hq]))];simp
theorem Ynf (A B:Yaf) (key v0:ByteArray) (is:Bool) (val:ByteArray) (hA:∀ p∈A,blt p.1 key) (hB:∀ p∈B,blt key p.1):Yaw (A ++ (key,v0) :: B) key is val=if is then A ++ (key,val) :: B else A ++ B:=by
 cases is with
 | true=>
  have hs:Yby key val (A,false) (key,v0)=(A ++ [(key,val)],true):=by simp [Yby]
  simp [Yaw,Yhx,Yi0 key val A [] false hA,hs,Yj9 key val B _ hB]
 | false=>
  have hs:Yby key val (A,true) (key,v0)=(A,true):=by simp [Yby]
  simp [Yaw,Yhx,Yi0 key val A [] true hA,hs,Yj9 key val B _ hB]
theorem Yng (A B:Yaf) (key:ByteArray) (is:Bool) (val:ByteArray) (hA:∀ p∈A,blt p.1 key) (hB:∀ p∈B,blt key p.1):Yaw (A ++ B) key is val=if is then A ++ (key,val) :: B else A ++ B:=by
 cases is with
 | true=>
  match B,hB with
  | [],_=>simp [Yaw,Yhx,Yi0 key val A [] false hA]
  | p :: B,hB=>
   have h0:=hB p (by simp);have h1:p.1≠key:=fun e=>Yek h0 e.symm
   have hs:Yby key val (A,false) p=(A ++ [(key,val)] ++ [p],true):=by simp [Yby,h1,show key.toList<p.1.toList from h0]
   simp [Yaw,Yhx,Yi0 key val A [] false hA,hs,Yj9 key val B _ (fun q hq=>hB q (by simp [hq]))]
 | false=>
  simp [Yaw,Yhx,Yi0 key val A [] true hA,Yj9 key val B _ hB]
theorem Yqw (hp:Yh4 ps key i) (hr:Ybi ps):
 ∃ A B:Yaf,A.length=i∧(∀ p∈A,blt p.1 key)∧(∀ p∈B,blt key p.1)∧((∃ v0,ps=A ++ (key,v0) :: B∧Ydo ps key i=true)∨(ps=A ++ B∧Ydo ps key i=false)):=by
 have hlow:∀ p∈ps.take i,blt p.1 key:=by
  intro p hm;obtain ⟨m,hm1,rfl⟩:=List.getElem_of_mem hm;have h1:m<i:=by simp at hm1;omega
  have h2:m<ps.length:=by simp at hm1;omega
  simpa using hp.2.1 m h2 h1
 have hal:(ps.take i).length=i:=by rw [List.length_take];have:=hp.1;omega
 have hhi:∀ m (h:m<ps.length),i≤m→ps[m].1≠key→blt key ps[m].1:=fun m h hm hk=>Classical.byContradiction fun hc=>hk (Yle (hp.2.2 m h hm) hc)
 by_cases hil:i<ps.length
 ·by_cases hk:ps[i].1=key
  ·refine ⟨ps.take i,ps.drop (i+1),hal,hlow,?_,.inl ⟨ps[i].2,?_,by simp [Ydo,hil,hk]⟩⟩
   ·intro p hm
    obtain ⟨m,hm1,rfl⟩:=List.getElem_of_mem hm;have h2:i+1+m<ps.length:=by simp at hm1;omega
    have:=hr i (i+1+m) hil h2 (by omega);rw [hk] at this;simpa using this
   ·have h1:ps=ps.take i ++ ps.drop i:=(List.take_append_drop i ps).symm
    rw [List.drop_eq_getElem_cons hil] at h1;have h2:ps[i]=(key,ps[i].2):=by rw [←hk]
    rw [h2] at h1;exact h1
  ·refine ⟨ps.take i,ps.drop i,hal,hlow,?_,.inr ⟨(List.take_append_drop i ps).symm,by simp [Ydo,hil,hk]⟩⟩
   intro p hm;obtain ⟨m,hm1,rfl⟩:=List.getElem_of_mem hm;have h2:i+m<ps.length:=by simp at hm1;omega
   have h3:=hhi i hil (Nat.le_refl _) hk;match m with
   | 0=>simpa using h3
   | m+1=>simpa using Yh3 h3 (hr i (i+(m+1)) hil h2 (by omega))
 ·refine ⟨ps,[],by have:=hp.1;omega,?_,by simp,.inr ⟨by simp,by simp [Ydo,hil]⟩⟩
  have:ps.take i=ps:=List.take_of_length_le (by omega);rw [this] at hlow;exact hlow
def Ylh (w w':World) (pb:Nat) (turn:Int) (v:Value) (ps:Yaf):Prop:=∃ v',Yh5 w' pb turn v' ps∧v'.ownBlock≠some pb∧(∀ k,k<w.heap.size→k≠pb→v.ownBlock≠some k→w'.heap[k]? = w.heap[k]?)∧(v'.ownBlock=v.ownBlock∨∃ k,w.heap.size≤k∧v'.ownBlock=some k)∧Below 0 w w'
theorem Yda {w':World} (h:w.ownsRow base e size v n xs) (hk:∀ g,v.ownBlock=some g→w'.heap[g]? = w.heap[g]?):w'.ownsRow base e size v n xs:=by
 refine ⟨h.1,?_⟩;rcases h.2 with h1 | ⟨g,cap,cur,h1,h2,h3,h4⟩
 ·exact .inl h1
 ·refine .inr ⟨g,cap,cur,h1,h2,?_,h4⟩
  rw [hk g (by rw [h1];rfl)];exact h3
theorem Yw7 (v:Value) (i:Nat) (ps A B:Yaf) (p:ByteArray×ByteArray) (w:World) (hps:ps=A ++ p :: B) (hA:A.length=i) (hown:w.ownsRow 0 43 2 v ps.length (Yad ps)) (hlen:ps.length≤100000):
 Calls prog 159 #[v,.int .i64 i,.int .i64 ((i:Int)+1)] w fun e w'=>∃ ad c n,Hid (n=(A ++ B).length)∧e=.returned (.slice ad n c)∧Ygp w w' v (.slice ad n c) (A ++ B).length (A ++ B):=by
 have hn:ps.length=i+1+B.length:=by rw [hps,List.length_append,hA,List.length_cons];omega
 obtain ⟨g,cap,rfl⟩:=Ybn hown (by omega)
 rw [hn] at hown hlen ⊢
 rw [hps] at hown
 refine (Ywz g cap i B.length A B p w hA rfl hown hlen).mono ?_
 rintro e w' ⟨rfl,h1,h2,h3⟩
 have hl:(A ++ B).length=i+B.length:=by rw [List.length_append,hA]
 refine ⟨_,_,_,hl.symm,rfl,by rw [hl];exact h1,fun k hk hne=>h2 k hk (fun e=>hne (by rw [e];rfl)),.inl rfl,h3⟩
theorem Yw8 (v:Value) (i:Nat) (ps A B:Yaf) (p:ByteArray×ByteArray) (gv:Nat) (w:World) (hps:ps=A ++ B) (hA:A.length=i) (hown:w.ownsRow 0 43 2 v ps.length (Yad ps)) (hgv:w.heap[gv]? = some (.cells #[.string p.1,.string p.2] 43 (0,0)))
 (hne:v.ownBlock≠some gv) (hlen:ps.length≤100000):
 Calls prog 160 #[v,.int .i64 i,.slice (some ⟨gv,0,none⟩) 1 1] w fun e w'=>∃ ad c n,Hid (n=(A ++ p :: B).length)∧e=.returned (.slice ad n c)∧Ygp w w' v (.slice ad n c) (A ++ p :: B).length (A ++ p :: B):=by
 have hn:ps.length=i+B.length:=by rw [hps,List.length_append,hA]
 rw [hn] at hown hlen
 rw [hps] at hown
 refine (Yw6 v i B.length A B p gv w hA rfl hown hgv hne hlen).mono ?_
 rintro e w' ⟨v',rfl,h⟩
 have hl:(A ++ p :: B).length=i+B.length+1:=by rw [List.length_append,hA,List.length_cons];omega
 obtain ⟨ad,c,rfl⟩:=Yjt h.1
 refine ⟨ad,c,_,hl.symm,rfl,?_⟩
 rw [hl]
 exact h
theorem Yqx {w2 w3 w4:World} {pb:Nat} {turn:Int} {v':Value} {l:Yaf} (hB2:Below w.heap.size w w2) (hpw:pb<w.heap.size) (hpb2:w2.heap[pb]? = some (.cells #[.int .i64 turn,v] 180 (0,0))) (hne:v.ownBlock≠some pb)
 (hB3:Below w2.heap.size w2 w3) (hi:Ygp w3 w4 v v' l.length l):Ylh w (w4.setCell ⟨pb,1,none⟩ v') pb turn v l:=by
 obtain ⟨h1,h2,h3,h4⟩:=hi
 have s2:=hB2.size
 have s3:=hB3.size
 have hpb3:=(hB3.block pb (by omega)).trans hpb2
 have hpb4:=(h2 pb (by omega) hne).trans hpb3
 have hne':v'.ownBlock≠some pb:=by
  rcases h3 with h | ⟨k,hk,h⟩
  ·rw [h];exact hne
  ·rw [h];simp;omega
 refine ⟨v',⟨?_,?_⟩,hne',fun k hk hkp hkv=>?_,?_,?_⟩
 ·exact (Yak w4 pb 1 v' _ _ hpb4).trans rfl
 ·refine Yda h1 (fun g hg=>?_)
  exact Below.heap_setCell _ _ _ _ (fun e=>hne' (by rw [hg,e]))
 ·rw [Below.heap_setCell _ _ _ _ hkp,h2 k (by omega) hkv,hB3.block k (by omega)]
  exact hB2.block k hk
 ·rcases h3 with h | ⟨k,hk,h⟩
  ·exact .inl h
  ·exact .inr ⟨k,by omega,h⟩
 ·exact ((hB2.mono (Nat.zero_le _)).trans ((hB3.mono (Nat.zero_le _)).trans h4)).setCell (p:=⟨pb,1,none⟩) (by simp) _
theorem Yw9 (pb:Nat) (turn:Int) (v:Value) (ps:Yaf) (key:ByteArray) (is:Bool) (val:ByteArray) (w:World) (hp:Yh5 w pb turn v ps) (hne:v.ownBlock≠some pb) (hlen:ps.length≤10000) (hr:Ybi ps):
 Calls prog 113 #[.pointer (some ⟨pb,0,none⟩),.string key,.agg #[.bool is,.string val]] w fun e w'=>e=.returned (.tuple #[])∧Ylh w w' pb turn v (Yaw ps key is val):=by
 obtain ⟨hpb,hown⟩:=hp
 have hpw:pb<w.heap.size:=Yaj hpb
 have hlt0:∀ g,v.ownBlock=some g→g<w.heap.size:=fun g hg=>(hown.lt g hg).2
 have cp:w.cell? ⟨pb,1,none⟩=some v:=Yaa (j:=1) hpb rfl
 obtain ⟨i,hpos⟩:=Ylg ps key hr
 obtain ⟨A,B,hAl,hA,hB,hcase⟩:=Yqw hpos hr
 have HX:Hid (∀ w1,(w.alloc (.cells #[.bool is,.string val] 38))=w1→w1.heap[pb]? = some (.cells #[.int .i64 turn,v] 180 (0,0))∧w1.ownsRow 0 43 2 v ps.length (Yad ps)∧w1.heap[w.heap.size]? = some (.cells #[.bool is,.string val] 38 (0,0))∧Below w.heap.size w w1∧w1.heap.size=w.heap.size+1):=by
  rintro w1 rfl;exact ⟨(Below.heap_alloc w _ pb hpw).trans hpb,hown.alloc _,heap_alloc_new w _,(Below.refl _ _).alloc (Nat.le_refl _) _,by simp⟩
 have HP:=Yh hpos
 have HAB:Hid ((∀ p∈A,blt p.1 key)∧(∀ p∈B,blt key p.1)):=⟨hA,hB⟩
 clear hpb hown hpos hA hB
 have hil:i≤ps.length:=HP.out.1
 have hw1:wrap64 ((i:Int)+1)=(i:Int)+1:=by simp only [wrap64];omega
 rcases hcase with ⟨v0,hps,hfo⟩ | ⟨hps,hfo⟩
 ·have HPS:=Yh hps
  have hlt:i<ps.length:=by rw [hps,List.length_append,hAl];simp
  have hlt':(i:Int)<(ps.length:Int):=by omega
  clear hps
  cases is with
  | true=>
   go_enter func113,ntmps113;go_wp2_with (first | (go_at_call 157;go_must (
    obtain ⟨hpb1,hown1,hnew,hB,hz⟩:=HX.out _ rfl;refine (Yiw 0 v ps key _ hown1 (by omega) hr).mono ?_;rintro e w2 ⟨i2,hpos,rfl,hb2⟩;obtain rfl:=Yix HP.out hpos;have hpb2:=(hb2.block pb (by omega)).trans hpb1;have hnew2:=(hb2.block w.heap.size (by omega)).trans hnew;have cp2:w2.cell? ⟨pb,1,none⟩=some v:=Yaa (j:=1) hpb2 rfl;have n0:w2.cell? ⟨w.heap.size,0,none⟩=some (.bool true):=Yaa (j:=0) hnew2 rfl;have n1:w2.cell? ⟨w.heap.size,1,none⟩=some (.string val):=Yaa (j:=1) hnew2 rfl;have fp2:=Yah 1 hpb2;have HO2:Hid (w2.ownsRow 0 43 2 v ps.length (Yad ps)):=Ybe hown1 hb2 (fun g hg=>by have:=hlt0 g hg;omega);have HB2:Hid (Below w.heap.size w w2):=hB.trans (hb2.mono hB.size);have HPB2:=Yh hpb2;have hz2:w.heap.size+1≤w2.heap.size:=by have:=hb2.size;omega
    clear hpb1 hown1 hnew hB hz hpb2 hnew2 hb2 hpos cp HX)))
   have hnb:=HO2.out;obtain ⟨g,cap,rfl⟩:=Ybn hnb (by omega);clear hnb;have hgN:g<w.heap.size:=hlt0 g rfl;obtain ⟨rest,hg2,hl1,hl2,hcap,hmax⟩:=Yj6 HO2.out;have hkc:Yad ps=Yad A ++ [Value.string key] ++ [Value.string v0] ++ Yad B:=by rw [HPS.out];simp [Yad]
   have hXl:(Yad A ++ [Value.string key]).length=i*2+1:=by rw [List.length_append,Yds,hAl];simp
   have HG2:Hid (w2.heap[g]? = some (.cells ((Yad A ++ [Value.string key]) ++ [Value.string v0] ++ (Yad B ++ rest)).toArray 43 (0,0))):=by
    show _=_;rw [hg2,hkc];simp
   have c0:w2.cell? ⟨g,i*2+1,none⟩=some (.string v0):=Yaa HG2.out (by rw [List.getElem?_toArray,List.append_assoc,List.getElem?_append_right (by omega),hXl];simp);have fz0:=Yah (i*2+1) HG2.out;have HFIN:Hid (Ylh w (w2.drew.setCell ⟨g,i*2+1,none⟩ (.string val)) pb turn (.slice (some ⟨g,0,none⟩) ps.length cap) (Yaw ps key true val)):=by
    have hwl:Yaw ps key true val=A ++ (key,val) :: B:=by rw [HPS.out,Ynf A B key v0 true val HAB.out.1 HAB.out.2];rfl
    have h4:=Yh6 (w:=w2.drew) (g:=g) (t:=43) (Yad A ++ [Value.string key]) [Value.string v0] (Yad B ++ rest) [Value.string val] HG2.out rfl;rw [hXl] at h4;have hll:(A ++ (key,val) :: B).length=ps.length:=by rw [HPS.out];simp
    have hcl:(Yad (A ++ (key,val) :: B)).length=ps.length*2:=by rw [Yds,hll]
    have hgp:pb≠g:=fun e=>hne (by rw [e];rfl)
    rw [hwl];refine ⟨.slice (some ⟨g,0,none⟩) ps.length cap,⟨(Below.heap_setCell _ _ _ _ hgp).trans HPB2.out,?_⟩,hne,fun k hk hkp hkv=>?_,.inl rfl,?_⟩
    ·rw [hll]
     exact Yj7 (rest:=rest) (Nat.zero_le _) (h4.trans (by simp [Yad])) hcl (by rw [hcl,←hl1];exact hl2) hcap hmax
    ·rw [Below.heap_setCell _ _ _ _ (fun e=>hkv (by rw [e];rfl))]
     exact HB2.out.block k hk
    ·exact ((HB2.out.mono (Nat.zero_le _)).drew).setCell (p:=⟨g,i*2+1,none⟩) (by simp) _
   clear hg2 hl1 hl2 hcap hmax hkc hXl;go_region
   go_wp2;go_end0;exact ⟨rfl,HFIN.out⟩
  | false=>
   go_enter func113,ntmps113;go_wp2_with (first | (go_at_call 157;go_must (
    obtain ⟨hpb1,hown1,hnew,hB,hz⟩:=HX.out _ rfl;refine (Yiw 0 v ps key _ hown1 (by omega) hr).mono ?_;rintro e w2 ⟨i2,hpos,rfl,hb2⟩;obtain rfl:=Yix HP.out hpos;have hpb2:=(hb2.block pb (by omega)).trans hpb1;have hnew2:=(hb2.block w.heap.size (by omega)).trans hnew;have cp2:w2.cell? ⟨pb,1,none⟩=some v:=Yaa (j:=1) hpb2 rfl;have n0:w2.cell? ⟨w.heap.size,0,none⟩=some (.bool false):=Yaa (j:=0) hnew2 rfl;have n1:w2.cell? ⟨w.heap.size,1,none⟩=some (.string val):=Yaa (j:=1) hnew2 rfl;have fp2:=Yah 1 hpb2;have HO2:Hid (w2.ownsRow 0 43 2 v ps.length (Yad ps)):=Ybe hown1 hb2 (fun g hg=>by have:=hlt0 g hg;omega);have HB2:Hid (Below w.heap.size w w2):=hB.trans (hb2.mono hB.size);have HPB2:=Yh hpb2;have hz2:w.heap.size+1≤w2.heap.size:=by have:=hb2.size;omega
    clear hpb1 hown1 hnew hB hz hpb2 hnew2 hb2 hpos cp HX)))
   refine (Yw7 v i ps A B (key,v0) w2 HPS.out hAl HO2.out (by omega)).mono ?_;rintro e w4 ⟨ad4,cap4,n4,HN4,rfl,hins⟩;have hpt:=Yqx HB2.out hpw HPB2.out hne (Below.refl _ _) hins;have HPT:=Yh hpt;have hpb4:=(hins.2.1 pb (by omega) hne).trans HPB2.out;have c4:w4.cell? ⟨pb,1,none⟩=some v:=Yaa (j:=1) hpb4 rfl;have f4:=Yah 1 hpb4;clear hpt hins hpb4;go_wp2;go_end0;refine ⟨rfl,?_⟩;rw [HPS.out,Ynf A B key v0 false val HAB.out.1 HAB.out.2];exact HPT.out
 ·have HPS:=Yh hps
  clear hps
  cases is with
  | true=>
   go_enter func113,ntmps113;go_wp2_with (first | (go_at_call 157;go_must (
    obtain ⟨hpb1,hown1,hnew,hB,hz⟩:=HX.out _ rfl;refine (Yiw 0 v ps key _ hown1 (by omega) hr).mono ?_;rintro e w2 ⟨i2,hpos,rfl,hb2⟩;obtain rfl:=Yix HP.out hpos;have hpb2:=(hb2.block pb (by omega)).trans hpb1;have hnew2:=(hb2.block w.heap.size (by omega)).trans hnew;have cp2:w2.cell? ⟨pb,1,none⟩=some v:=Yaa (j:=1) hpb2 rfl;have n0:w2.cell? ⟨w.heap.size,0,none⟩=some (.bool true):=Yaa (j:=0) hnew2 rfl;have n1:w2.cell? ⟨w.heap.size,1,none⟩=some (.string val):=Yaa (j:=1) hnew2 rfl;have fp2:=Yah 1 hpb2;have HO2:Hid (w2.ownsRow 0 43 2 v ps.length (Yad ps)):=Ybe hown1 hb2 (fun g hg=>by have:=hlt0 g hg;omega);have HB2:Hid (Below w.heap.size w w2):=hB.trans (hb2.mono hB.size);have HPB2:=Yh hpb2;have hz2:w.heap.size+1≤w2.heap.size:=by have:=hb2.size;omega
    clear hpb1 hown1 hnew hB hz hpb2 hnew2 hb2 hpos cp HX)))
   have hpw2:pb<w2.heap.size:=by omega
   have hnw2:w.heap.size<w2.heap.size:=by omega
   have hgv:∀ O,(w2.drew.alloc O).heap[w2.heap.size]? = some O:=fun O=>heap_alloc_new w2.drew O
   have HGV:=Yh hgv;have HO3:Hid (∀ O,(w2.drew.alloc O).ownsRow 0 43 2 v ps.length (Yad ps)):=fun O=>World.ownsRow.alloc (w:=w2.drew) HO2.out O
   have HNG:Hid (v.ownBlock≠some w2.heap.size):=fun e=>by have:=hlt0 _ e;omega
   clear hgv;go_region_with (first
    | (go_at_call 160;go_must (
     refine (Yw8 v i ps A B (key,val) w2.heap.size _ HPS.out hAl (HO3.out _) (HGV.out _) HNG.out (by omega)).mono ?_;rintro e w4 ⟨ad4,cap4,n4,HN4,rfl,hins⟩;have hpt:=Yqx HB2.out hpw HPB2.out hne ((Below.refl _ _).drew.alloc (Nat.le_refl _) _) hins;have HPT:=Yh hpt;have hpb4:=(hins.2.1 pb (by simp;omega) hne).trans ((Below.heap_alloc w2.drew _ pb (by simp;omega)).trans HPB2.out);have c4:w4.cell? ⟨pb,1,none⟩=some v:=Yaa (j:=1) hpb4 rfl;have f4:=Yah 1 hpb4;clear hpt hins hpb4)))
   all_goals
    go_wp2;go_end0;refine ⟨rfl,?_⟩;rw [HPS.out,Yng A B key true val HAB.out.1 HAB.out.2];exact HPT.out
  | false=>
   go_enter func113,ntmps113;go_wp2_with (first | (go_at_call 157;go_must (
    obtain ⟨hpb1,hown1,hnew,hB,hz⟩:=HX.out _ rfl;refine (Yiw 0 v ps key _ hown1 (by omega) hr).mono ?_;rintro e w2 ⟨i2,hpos,rfl,hb2⟩;obtain rfl:=Yix HP.out hpos;have hpb2:=(hb2.block pb (by omega)).trans hpb1;have hnew2:=(hb2.block w.heap.size (by omega)).trans hnew;have cp2:w2.cell? ⟨pb,1,none⟩=some v:=Yaa (j:=1) hpb2 rfl;have n0:w2.cell? ⟨w.heap.size,0,none⟩=some (.bool false):=Yaa (j:=0) hnew2 rfl;have n1:w2.cell? ⟨w.heap.size,1,none⟩=some (.string val):=Yaa (j:=1) hnew2 rfl;have fp2:=Yah 1 hpb2;have HO2:Hid (w2.ownsRow 0 43 2 v ps.length (Yad ps)):=Ybe hown1 hb2 (fun g hg=>by have:=hlt0 g hg;omega);have HB2:Hid (Below w.heap.size w w2):=hB.trans (hb2.mono hB.size);have HPB2:=Yh hpb2;have hz2:w.heap.size+1≤w2.heap.size:=by have:=hb2.size;omega
    clear hpb1 hown1 hnew hB hz hpb2 hnew2 hb2 hpos cp HX)))
   go_end0;refine ⟨rfl,v,⟨HPB2.out,?_⟩,hne,fun k hk _ _=>HB2.out.block k hk,.inl rfl,HB2.out.mono (Nat.zero_le _)⟩;rw [HPS.out,Yng A B key false val HAB.out.1 HAB.out.2];have:=HO2.out;rw [HPS.out] at this;exact this
def Ybz (k1 v1 k2 v2:ByteArray):List Value:=Ya2 k1 8 ++ Ya2 v1 12 ++ Ya2 k2 8 ++ Ya2 v2 12
def Yel (k v:ByteArray):Yaf:=if k=ByteArray.empty then [] else [(k,v)]
theorem Yh7 (s:ByteArray) (r:Nat) (h:s.size≤r):(Ya2 s r).length=1+r:=by
 simp only [Ya2,List.length_append,List.length_replicate,Lib.strCells_length,List.length_cons,List.length_nil];omega
theorem Yka (k1 v1 k2 v2:ByteArray) (h1:k1.size≤8) (h2:v1.size≤12) (h3:k2.size≤8) (h4:v2.size≤12):(Ybz k1 v1 k2 v2).length=44:=by
 simp only [Ybz,List.length_append,Yh7 _ _ h1,Yh7 _ _ h2,Yh7 _ _ h3,Yh7 _ _ h4]
theorem Ynh (k1 v1 k2 v2:ByteArray) (h1:k1.size≤8) (h2:v1.size≤12) (h3:k2.size≤8) (h4:v2.size≤12):∀ u∈Ybz k1 v1 k2 v2,Ycm u:=by
 intro u hu;simp only [Ybz,List.mem_append] at hu;rcases hu with ((h | h) | h) | h
 ·exact Yj4 _ _ (by omega) u h
 ·exact Yj4 _ _ (by omega) u h
 ·exact Yj4 _ _ (by omega) u h
 ·exact Yj4 _ _ (by omega) u h
theorem Yxa (a b:Int) (k1 v1 k2 v2:ByteArray) (h1:k1.size≤8) (h2:v1.size≤12) (h3:k2.size≤8) {W:World} {g:Nat} {t:TypeId} (hg:W.heap[g]? = some (.cells (Yam a b (Ybz k1 v1 k2 v2)).toArray t (0,0))):
 (∀ j u,(Ya2 k1 8)[j]? = some u→W.cell? ⟨g,8+22*0+j,none⟩=some u)∧(∀ j u,(Ya2 v1 12)[j]? = some u→W.cell? ⟨g,8+22*0+9+j,none⟩=some u) ∧
 (∀ j u,(Ya2 k2 8)[j]? = some u→W.cell? ⟨g,8+22*1+j,none⟩=some u)∧(∀ j u,(Ya2 v2 12)[j]? = some u→W.cell? ⟨g,8+22*1+9+j,none⟩=some u):=by
 have la:=Yeq a 4
 have lb:=Yeq b 4
 have e1:=Yh7 k1 8 h1
 have e2:=Yh7 v1 12 h2
 have e3:=Yh7 k2 8 h3
 have hc:∀ i u,(Yam a b (Ybz k1 v1 k2 v2))[i]? = some u→W.cell? ⟨g,i,none⟩=some u:=fun i u hu=>Yaa hg (by simpa using hu)
 refine ⟨fun j u hu=>hc _ u ?_,fun j u hu=>hc _ u ?_,fun j u hu=>hc _ u ?_,fun j u hu=>hc _ u ?_⟩
 ·have:=Ye9 (pre:=be a 4 ++ be b 4) (x:=Ya2 k1 8) (post:=Ya2 v1 12 ++ Ya2 k2 8 ++ Ya2 v2 12 ++ List.replicate (48 - (Ybz k1 v1 k2 v2).length) (Value.int .u8 0) ++ (be a 4 ++ be b 4)) hu
  rw [List.length_append,la,lb] at this;rw [show 8+22*0+j=4+4+j by omega];simpa only [Yam,Ybz,List.append_assoc] using this
 ·have:=Ye9 (pre:=be a 4 ++ be b 4 ++ Ya2 k1 8) (x:=Ya2 v1 12) (post:=Ya2 k2 8 ++ Ya2 v2 12 ++ List.replicate (48 - (Ybz k1 v1 k2 v2).length) (Value.int .u8 0) ++ (be a 4 ++ be b 4)) hu
  rw [List.length_append,List.length_append,la,lb,e1] at this;rw [show 8+22*0+9+j=4+4+(1+8)+j by omega];simpa only [Yam,Ybz,List.append_assoc] using this
 ·have:=Ye9 (pre:=be a 4 ++ be b 4 ++ Ya2 k1 8 ++ Ya2 v1 12) (x:=Ya2 k2 8) (post:=Ya2 v2 12 ++ List.replicate (48 - (Ybz k1 v1 k2 v2).length) (Value.int .u8 0) ++ (be a 4 ++ be b 4)) hu
  rw [List.length_append,List.length_append,List.length_append,la,lb,e1,e2] at this;rw [show 8+22*1+j=4+4+(1+8)+(1+12)+j by omega];simpa only [Yam,Ybz,List.append_assoc] using this
 ·have:=Ye9 (pre:=be a 4 ++ be b 4 ++ Ya2 k1 8 ++ Ya2 v1 12 ++ Ya2 k2 8) (x:=Ya2 v2 12) (post:=List.replicate (48 - (Ybz k1 v1 k2 v2).length) (Value.int .u8 0) ++ (be a 4 ++ be b 4)) hu
  rw [List.length_append,List.length_append,List.length_append,List.length_append,la,lb,e1,e2,e3] at this;rw [show 8+22*1+9+j=4+4+(1+8)+(1+12)+(1+8)+j by omega];simpa only [Yam,Ybz,List.append_assoc] using this
theorem Yi1 (w:World) (o o':Obj):((w.alloc o).alloc o').heap[w.heap.size+1]? = some o':=by
 have:=heap_alloc_new (w.alloc o) o';simpa using this
theorem Yeu {base':Nat} (h:w.ownsRow base e size v n xs) (hb:base'≤base):w.ownsRow base' e size v n xs:=by
 refine ⟨h.1,?_⟩;rcases h.2 with h1 | ⟨g,cap,cur,h1,h2,h3⟩
 ·exact .inl h1
 ·exact .inr ⟨g,cap,cur,h1,by omega,h3⟩
def Ycq (k1 v1 k2 v2:ByteArray):Nat→Yaf
 | 0=>[]
 | 1=>Yel k1 v1
 | _=>Yel k1 v1 ++ Yel k2 v2
theorem Yqy (a b:Int) (k1 v1 k2 v2:ByteArray) (w:World) (ha:0≤a) (ha':a<4294967295) (hb:0≤b) (hb':b<4294967296) (h1:k1.size≤8) (h2:v1.size≤12) (h3:k2.size≤8) (h4:v2.size≤12):
 Calls prog 219 #[.agg (Yam a b (Ybz k1 v1 k2 v2)).toArray] w fun e w'=>∃ v,e=.returned (.tuple #[.agg #[.int .u32 a,.int .u32 b],v,.bool true]) ∧
  w'.ownsRow w.heap.size 43 2 v (Ycq k1 v1 k2 v2 2).length (Yad (Ycq k1 v1 k2 v2 2))∧Below w.heap.size w w':=by
 have HUN:=Yh (fun w=>Yqp a b (Ybz k1 v1 k2 v2) w ha ha' hb hb' (by rw [Yka k1 v1 k2 v2 h1 h2 h3 h4];omega) (Ynh k1 v1 k2 v2 h1 h2 h3 h4))
 have HAT:Hid (∀ (W:World) (g:Nat),W.heap[g]? = some (.cells (Yam a b (Ybz k1 v1 k2 v2)).toArray 98 (0,0))→_):=fun W g hg=>Yxa a b k1 v1 k2 v2 h1 h2 h3 hg
 have hsz:(Yam a b (Ybz k1 v1 k2 v2)).length=64:=Yeh a b _ (by rw [Yka k1 v1 k2 v2 h1 h2 h3 h4];omega)
 generalize Yam a b (Ybz k1 v1 k2 v2)=S at HUN HAT hsz ⊢
 have hi9:(prog.info? 98).map (·.size)=some S.length:=by rw [hsz];kernel_rfl
 have HR:Hid (∀ W:World,W.heap[w.heap.size]? = some (.cells S.toArray 98 (0,0))→W.rangeAt w.heap.size 0 S):=fun W hW j u hu=>by rw [Nat.zero_add];exact Yaa hW (by simpa using hu)
 go_enter func219,ntmps219
 go_wp2_with (first
  | (refine wpList_load_mid rfl 98 (.tmp 1) rfl w.heap.size 0 (by rfl) S _ (HR.out _ ((Below.heap_alloc _ _ _ (by simp)).trans (heap_alloc_new w _))) underlying98 rfl hi9 ?_)
  | (go_at_call 151;go_must (
   refine (HUN.out _).mono ?_;rintro e w1 ⟨rfl,hs1,hb1⟩;have HS1:=Yh hs1;have HB1:=Yh hb1;clear hb1 hs1)))
 have hz0:((w.alloc (.cells S.toArray 98)).alloc (.cells #[.int .u32 0,.int .u32 0] 168)).heap.size=w.heap.size+1+1:=by simp
 have hs1:=HS1.out
 have hb1:=HB1.out
 rw [hz0] at hs1 hb1
 have hz1:w.heap.size+1+1<w1.heap.size:=Yaj hs1
 have hr1:w1.heap[w.heap.size+1]? = some (.cells #[.int .u32 0,.int .u32 0] 168 (0,0)):=(hb1.block _ (by omega)).trans (by have:=heap_alloc_new (w.alloc (.cells S.toArray 98)) (.cells #[.int .u32 0,.int .u32 0] 168);simpa using this)
 obtain ⟨W2,hW2⟩:∃ W2,(w1.alloc (.cells #[.int .u32 a,.int .u32 b] 168)).alloc (.cells #[.slice (some ⟨w.heap.size+1+1,8,none⟩) 48 56,.bool false] 243)=W2:=⟨_,rfl⟩
 have HB2:Hid (Below w.heap.size w W2):=by
  show Below _ _ _;rw [←hW2];exact ((((((Below.refl _ w).alloc (Nat.le_refl _) _).alloc (by simp) _).trans (hb1.mono (by omega))).alloc (by omega) _)).alloc (by simp;omega) _
 have HG:Hid (W2.heap[w.heap.size+1+1]? = some (.cells S.toArray 98 (0,0))):=by show _=_;rw [←hW2,Below.heap_alloc _ _ _ (by simp;omega),Below.heap_alloc _ _ _ (by omega)];exact hs1
 have HR1:Hid (W2.heap[w.heap.size+1]? = some (.cells #[.int .u32 0,.int .u32 0] 168 (0,0))):=by show _=_;rw [←hW2,Below.heap_alloc _ _ _ (by simp;omega),Below.heap_alloc _ _ _ (by omega)];exact hr1
 have HP5:Hid (W2.heap[w1.heap.size]? = some (.cells #[.int .u32 a,.int .u32 b] 168 (0,0))):=by show _=_;rw [←hW2,Below.heap_alloc _ _ _ (by simp)];exact heap_alloc_new w1 _
 have HRB:Hid (Ydm W2 (w1.heap.size+1) (some ⟨w.heap.size+1+1,8,none⟩) 48 56 false):=by
  show Ydm _ _ _ _ _ _;rw [←hW2];have:=heap_alloc_new (w1.alloc (.cells #[.int .u32 a,.int .u32 b] 168)) (.cells #[.slice (some ⟨w.heap.size+1+1,8,none⟩) 48 56,.bool false] 243);simpa [Ydm] using this
 have hz2:W2.heap.size=w1.heap.size+2:=by rw [←hW2];simp
 rw [hW2]
 generalize hgb:w.heap.size+1+1=gb at *
 generalize w1.heap.size=p5 at *
 clear hW2 hs1 hb1 hr1 HS1 HB1 HUN hz0 HR
 go_loopw [9,22] (fun v i wr=>∃ k:Nat,k≤2∧i=.int .i64 k∧wr.ownsRow (p5+1+1) 43 2 v (Ycq k1 v1 k2 v2 k).length (Yad (Ycq k1 v1 k2 v2 k))∧Ydm wr (p5+1) (some ⟨gb,8+22*k,none⟩) (48 - 22*k) (56 - 22*k) false∧(∀ q,q<p5+1→wr.heap[q]? = W2.heap[q]?)∧Below 0 W2 wr) (fun _ i _=>2 - (intOf i).toNat)
 case atStart=>exact ⟨0,by omega,rfl,World.ownsRow_nil _ _ _ _,HRB.out,fun _ _=>rfl,Below.refl _ _⟩
 case round=>
  obtain ⟨k,hk,rfl,hown,hrd,hfr,hbw⟩:=hrel;have hgr:wr.heap[gb]? = some (.cells S.toArray 98 (0,0)):=(hfr gb (by omega)).trans HG.out;by_cases hlt:k<2
  ·obtain ⟨kk,vv,hks,hvs,hKT,hVT,hup⟩:∃ kk vv:ByteArray,kk.size≤8∧vv.size≤12∧(∀ (W:World),W.heap[gb]? = some (.cells S.toArray 98 (0,0))→∀ j u,(Ya2 kk 8)[j]? = some u→W.cell? ⟨gb,8+22*k+j,none⟩=some u)∧(∀ (W:World),W.heap[gb]? = some (.cells S.toArray 98 (0,0))→∀ j u,(Ya2 vv 12)[j]? = some u→W.cell? ⟨gb,8+22*k+9+j,none⟩=some u)∧Ycq k1 v1 k2 v2 (k+1)=Ycq k1 v1 k2 v2 k ++ Yel kk vv:=by
    match k,hlt with
    | 0,_=>exact ⟨k1,v1,h1,h2,fun W h=>(HAT.out W gb h).1,fun W h=>(HAT.out W gb h).2.1,rfl⟩
    | 1,_=>exact ⟨k2,v2,h3,h4,fun W h=>(HAT.out W gb h).2.2.1,fun W h=>(HAT.out W gb h).2.2.2,rfl⟩
   have hlt':(k:Int)<2:=by omega
   have tok1:True:=trivial;have tok2:True:=trivial;have KK:=Ylb (p5+1) gb (8+22*k) (48 - 22*k) (56 - 22*k) 8 false wr hrd (by omega) (by omega) (by omega) (by omega) (by omega) (by omega) kk hks (hKT wr hgr);have HUP:=Yh hup;have HVT:=Yh hVT;have HFR:=Yh hfr;have HBW:=Yh hbw;have HGR:=Yh hgr;have HOW:=Yh hown;have hlr:p5+1<wr.heap.size:=Yaj hrd;have hup2:(Ycq k1 v1 k2 v2 k).length≤2:=by
    have h01:∀ x y,(Yel x y).length≤1:=fun x y=>by unfold Yel;split <;> simp
    match k with
    | 0=>simp [Ycq]
    | 1=>have:=h01 k1 v1;simp [Ycq];omega
    | n+2=>have:=h01 k1 v1;have:=h01 k2 v2;simp [Ycq];omega
   generalize hU1:Ycq k1 v1 k2 v2 (k+1)=U' at HUP;have HU1:=Yh hU1;clear hU1;generalize Ycq k1 v1 k2 v2 k=U at HUP HOW hup2;clear hup hVT hKT hfr hbw hgr hown hrd;by_cases hke:kk=ByteArray.empty
   ·have HU:Hid (U'=U):=by show _=_;rw [HUP.out,Yel,if_pos hke];simp
    subst hke;go_wp2_with (first
     | (go_at_call 197;have _t:=tok1;go_must (
      refine KK.mono ?_;rintro e w3 ⟨rfl,hrd3,ho3,hz3,hb3⟩;have hg3:=(ho3 gb (by omega)).trans HGR.out;have KV:=Ylb (p5+1) gb (8+22*k+9) (48 - 22*k - 9) (56 - 22*k - 9) 12 false w3 hrd3 (by omega) (by omega) (by omega) (by omega) (by omega) (by omega) vv hvs (HVT.out w3 hg3);have HF3:=Yh ho3;have HZ3:=Yh hz3;have HB3:=Yh hb3;clear hrd3 ho3 hz3 hb3 hg3 tok1 KK))
     | (go_at_call 197;have _t:=tok2;go_must (
      refine KV.mono ?_;rintro e w4 ⟨rfl,hrd4,ho4,hz4,hb4⟩;have HRD4:=Yh hrd4;have HF4:Hid (∀ q,q≠p5+1→w4.heap[q]? = wr.heap[q]?):=fun q hq=>(ho4 q hq).trans (HF3.out q hq)
      have HZ4:Hid (w4.heap.size=wr.heap.size):=hz4.trans HZ3.out;have HB4:Hid (Below 0 wr w4):=HB3.out.trans hb4;clear hrd4 ho4 hz4 hb4 tok2 KV)))
    have hz4:=HZ4.out;have hb5:Below w4.heap.size w4 (w4.alloc (.cells #[.string ByteArray.empty,.string vv] 43)):=(Below.refl _ _).alloc (Nat.le_refl _) _;refine ⟨⟨k+1,by omega,by simp,?_,?_,fun q hq=>?_,?_⟩,by simp [intOf];omega⟩
    ·rw [HU1.out,HU.out];exact (Yda HOW.out (fun g hg=>HF4.out g (by have:=(HOW.out.lt g hg).1;omega))).alloc _
    ·have:=(hb5.block (p5+1) (by omega)).trans HRD4.out
     have e1:8+22*k+9+(1+12)=8+22*(k+1):=by omega
     have e2:48 - 22*k - 9 - (1+12)=48 - 22*(k+1):=by omega
     have e3:56 - 22*k - 9 - (1+12)=56 - 22*(k+1):=by omega
     rw [e1,e2,e3] at this;exact this
    ·rw [hb5.block q (by omega),HF4.out q (by omega)];exact HFR.out q hq
    ·exact HBW.out.trans (HB4.out.trans (hb5.mono (Nat.zero_le _)))
   ·have HU:Hid (U'=U ++ [(kk,vv)]):=by show _=_;rw [HUP.out,Yel,if_neg hke]
    have hke':kk.toList.isEmpty=false:=by
     cases hh:kk.toList with
     | nil=>exact absurd (toList_inj (hh.trans (by rw [Lib.toList_data];rfl))) hke
     | cons _ _=>rfl
    go_wp2_with (first
     | (go_at_call 197;have _t:=tok1;go_must (
      refine KK.mono ?_;rintro e w3 ⟨rfl,hrd3,ho3,hz3,hb3⟩;have hg3:=(ho3 gb (by omega)).trans HGR.out;have KV:=Ylb (p5+1) gb (8+22*k+9) (48 - 22*k - 9) (56 - 22*k - 9) 12 false w3 hrd3 (by omega) (by omega) (by omega) (by omega) (by omega) (by omega) vv hvs (HVT.out w3 hg3);have HF3:=Yh ho3;have HZ3:=Yh hz3;have HB3:=Yh hb3;clear hrd3 ho3 hz3 hb3 hg3 tok1 KK))
     | (go_at_call 197;have _t:=tok2;go_must (
      refine KV.mono ?_;rintro e w4 ⟨rfl,hrd4,ho4,hz4,hb4⟩;have HRD4:=Yh hrd4;have HF4:Hid (∀ q,q≠p5+1→w4.heap[q]? = wr.heap[q]?):=fun q hq=>(ho4 q hq).trans (HF3.out q hq)
      have HZ4:Hid (w4.heap.size=wr.heap.size):=hz4.trans HZ3.out;have HB4:Hid (Below 0 wr w4):=HB3.out.trans hb4;clear hrd4 ho4 hz4 hb4 tok2 KV))
     | (at_builtin;go_must (
      refine Yg7 rfl _ _ rfl (p5+1+1) u9 U rfl ?hown (w4.heap.size+1) kk vv rfl ?hnew (by omega) ?hbase ?_
      case hown=>exact ((Yda HOW.out (fun g hg=>HF4.out g (by have:=(HOW.out.lt g hg).1;omega))).alloc _).alloc _
      case hnew=>exact Yi1 w4 _ _
      case hbase=>have:=HZ4.out;simp;omega
      intro v5 w5 hown5 hb5;have HB5:Hid (Below (p5+1+1) w4 w5):=(((Below.refl _ _).alloc (by have:=HZ4.out;omega) _).alloc (by have:=HZ4.out;simp;omega) _).trans hb5;clear hb5)))
    have hz4:=HZ4.out;refine ⟨⟨k+1,by omega,by simp,?_,?_,fun q hq=>?_,?_⟩,by simp [intOf];omega⟩
    ·rw [HU1.out,HU.out];exact hown5
    ·have:=(HB5.out.block (p5+1) (by omega)).trans HRD4.out
     have e1:8+22*k+9+(1+12)=8+22*(k+1):=by omega
     have e2:48 - 22*k - 9 - (1+12)=48 - 22*(k+1):=by omega
     have e3:56 - 22*k - 9 - (1+12)=56 - 22*(k+1):=by omega
     rw [e1,e2,e3] at this;exact this
    ·rw [HB5.out.block q (by omega),HF4.out q (by omega)];exact HFR.out q hq
    ·exact HBW.out.trans (HB4.out.trans (HB5.out.mono (Nat.zero_le _)))
  ·obtain rfl:k=2:=by omega
   have q1:=(hfr (w.heap.size+1) (by omega)).trans HR1.out;have q5:=(hfr p5 (by omega)).trans HP5.out;have c1:=Yaa (j:=0) q1 rfl;have c2:=Yaa (j:=1) q1 rfl;have f1:=Yah 0 q1;have f2:=Yah 1 q1;have c5:=Yaa (j:=0) q5 rfl;have c6:=Yaa (j:=1) q5 rfl;have c7:wr.cell? ⟨p5+1,1,none⟩=some (.bool false):=Yaa (j:=1) hrd rfl;have HQ1:=Yh q1;have HOW:=Yh hown;have HBF:Hid (Below w.heap.size w wr):=⟨hbw.os.trans HB2.out.os,hbw.tape.trans HB2.out.tape,hbw.output.trans HB2.out.output,by have:=hbw.size;have:=HB2.out.size;omega,fun q hq=>(hfr q (by omega)).trans (HB2.out.block q hq)⟩;clear q1 q5 hown hbw hfr hrd;go_wp2;go_region
   all_goals
    go_wp2;have k3:=Yak _ (w.heap.size+1) 1 (.int .u32 b) _ 168 (Yak wr (w.heap.size+1) 0 (.int .u32 a) _ 168 HQ1.out);have m0:=Yaa (j:=0) k3 rfl;have m1:=Yaa (j:=1) k3 rfl;refine bodyPost_ret (v:=.tuple #[.agg #[.int .u32 a,.int .u32 b],u9,.bool true]) ?_ rfl ⟨u9,rfl,?_,?_⟩
    ·simp [results,Tryz.results219,go_sem,m0,m1]
    ·refine Yeu (Yda (w:=wr) HOW.out (fun g hg=>?_)) (show w.heap.size≤p5+1+1 by omega)
     have:=(HOW.out.lt g hg).1;exact (Below.heap_setCell _ _ _ _ (show g≠w.heap.size+1 by omega)).trans (Below.heap_setCell _ _ _ _ (show g≠w.heap.size+1 by omega))
    ·exact ((HBF.out.setCell (p:=⟨w.heap.size+1,0,none⟩) (by simp) _).setCell (p:=⟨w.heap.size+1,1,none⟩) (by simp) _).drew
end Go.Proofs.YtihbngfbcnojcaaGreat
