import Derived.WalkKit
import Derived.Maps.AppendAt
import Derived.Lib.AppendStr
import Derived.Lib.AppendZeros
import Derived.WalkSpells
import Derived.WalkLawsBesides
import Derived.Test.YtihbngfbcnojcaaGreatProg
import Derived.Lib.Strings
import Derived.Sort.Walk0
import Derived.Laws.ResultCell
import Derived.Deep.DeepMust
import Derived.RegionTactic
import Derived.BigRegion
import Derived.Deep.RegionWith
set_option maxRecDepth 100000
set_option maxHeartbeats 8000000
namespace Go.Proofs.YtihbngfbcnojcaaGreat
open Go.RowKit Tryz
theorem Yh {p:Prop} (h:p) : Hid p:=h
end Go.Proofs.YtihbngfbcnojcaaGreat
namespace Go.Proofs.YtihbngfbcnojcaaGreat
open Go.RowKit Tryz
variable {a b:ByteArray} {xs:List Value} {B base cap g k n size:Nat} {o:Obj} {e t ty u:TypeId} {v v' v1 v2:Value} {w w' w1 w2:World}
def Yb2 (w:World) (v:Value) (w':World) (v':Value):Prop:=w.grownBy w' v.ownBlock∧(v'.ownBlock=v.ownBlock∨∃ k,w.heap.size≤k∧v'.ownBlock=some k)
theorem Yb2.refl (w:World) (v:Value):Yb2 w v w v:=⟨⟨rfl,rfl,rfl,Nat.le_refl _,fun _ _ _=>rfl⟩,.inl rfl⟩
theorem Yb2.trans (h:Yb2 w v w1 v1) (k:Yb2 w1 v1 w2 v2):Yb2 w v w2 v2:=by
 obtain ⟨h1,h2⟩:=h;obtain ⟨k1,k2⟩:=k;have hs:=h1.size;refine ⟨⟨k1.os.trans h1.os,k1.tape.trans h1.tape,k1.output.trans h1.output,Nat.le_trans hs k1.size,fun i hi hne=>?_⟩,?_⟩
 ·rw [k1.block i (by omega) ?_,h1.block i hi hne]
  rcases h2 with h2 | ⟨j,hj,h2⟩
  ·rw [h2];exact hne
  ·rw [h2];intro e;cases e;omega
 ·rcases k2 with k2 | ⟨j,hj,k2⟩
  ·rcases h2 with h2 | ⟨i,hi,h2⟩
   ·exact .inl (k2.trans h2)
   ·exact .inr ⟨i,hi,k2.trans h2⟩
  ·exact .inr ⟨j,by omega,k2⟩
theorem Yb2.alloc (h:Yb2 w v w1 v1) (o:Obj):Yb2 w v (w1.alloc o) v1:=
 h.trans ⟨World.grownBy_alloc _ _ _,.inl rfl⟩
theorem Yb2.append (h:Yb2 w v w1 v1) (hg:w1.grownBy w2 v1.ownBlock) (ha:v2.ownBlock=v1.ownBlock∨v2.ownBlock=some w1.heap.size):Yb2 w v w2 v2:=
 h.trans ⟨hg,ha.imp id fun e=>⟨_,Nat.le_refl _,e⟩⟩
theorem Yb2.block (h:Yb2 w v w' v') {k:Nat} (hk:k<w.heap.size) (hne:v.ownBlock≠some k):w'.heap[k]? = w.heap[k]?:=h.1.block k hk (fun e=>hne e.symm)
theorem Ype {news:List Value} {r:Result Value} (hown:w.ownsRow base e 1 v k xs) (hb:base≤w.heap.size) (hl:news.length=n)
 (hnil:v=.slice none 0 0→n=0→r=.ok v w)
 (hroom:∀ g cap cur,v=.slice (some ⟨g,0,none⟩) k cap→w.heap[g]? = some (.cells cur e (0,0))→cur.size=cap→k+n≤cap→r=.ok (.slice (some ⟨g,0,none⟩) (k+n) cap) (w.setRow g (cur.toList.take k ++ news ++ cur.toList.drop (k+n)).toArray))
 (hgrow:∀ ad cap,v=.slice ad k cap→cap<k+n→∃ c rest,r=.ok (.slice (some ⟨w.heap.size,0,none⟩) (k+n) c) (w.drew.alloc (.cells ((xs ++ news).toArray ++ rest) e))∧k+n+rest.size=c∧c≤maxLen):
 ∃ v' w',r=.ok v' w'∧w'.ownsRow base e 1 v' (k+n) (xs ++ news)∧Yb2 w v w' v':=by
 have hxl:xs.length=k:=by simpa using hown.1
 have hlen:(xs ++ news).length=(k+n)*1:=by rw [List.length_append,hxl,hl,Nat.mul_one]
 have grown:∀ ad cap,v=.slice ad k cap→cap<k+n→∃ v' w',r=.ok v' w'∧w'.ownsRow base e 1 v' (k+n) (xs ++ news)∧Yb2 w v w' v':=by
  intro ad cap hv hc;obtain ⟨c,rest,hr,hcs,hcm⟩:=hgrow ad cap hv hc;refine ⟨_,_,hr,⟨hlen,.inr ⟨w.heap.size,c,_,rfl,hb,heap_alloc_new w.drew _,by omega,hcm,?_,?_⟩⟩,⟨⟨rfl,rfl,rfl,by simp,fun i hi _=>Below.heap_alloc w.drew _ i hi⟩,.inr ⟨_,Nat.le_refl _,rfl⟩⟩⟩
  ·simp only [Array.size_append,List.size_toArray,hlen];omega
  ·simp only [Array.toList_append]
   rw [←hlen];exact List.take_left
 rcases hown.2 with ⟨rfl,rfl⟩ | ⟨g,cap,cur,rfl,hbg,hg,hnc,hcm,hcs,htake⟩
 ·by_cases hn:n=0
  ·subst hn
   have h1:xs=[]:=List.eq_nil_of_length_eq_zero hxl;have h2:news=[]:=List.eq_nil_of_length_eq_zero hl;subst h1 h2;exact ⟨_,_,hnil rfl rfl,hown,Yb2.refl _ _⟩
  ·exact grown _ _ rfl (by omega)
 ·by_cases hroom':k+n≤cap
  ·have hcs':cur.size=cap:=by simpa using hcs
   refine ⟨_,_,hroom g cap cur rfl hg hcs' hroom',⟨hlen,.inr ⟨g,cap,_,rfl,hbg,setRow_heap w g cur _ e _ hg,hroom',hcm,?_,?_⟩⟩,⟨⟨rfl,rfl,rfl,by simp,fun i _ hi=>setRow_other w g i _ (fun e=>hi (by simp [Value.ownBlock,e]))⟩,.inl rfl⟩⟩
   ·simp only [List.size_toArray,List.length_append,List.length_take,List.length_drop,Array.length_toList,hl]
    omega
   ·have ht':cur.toList.take k=xs:=by simpa using htake
    simp only [ht'];rw [←hlen];exact List.take_left
  ·exact grown _ _ rfl (by omega)
theorem Yuv {P:Program} {i:TypeInfo} (ht:P.underlying t=some (.slice e)) (hu:P.underlying u=some .string) (hi:P.info? e=some i) (hz:i.zero=some (.int .u8 0)) (h1:i.size=1) (hy:i.bytes=1)
 {v:Value} {k:Nat} {xs:List Value} (hown:w.ownsRow base e 1 v k xs) (hb:base≤w.heap.size) (s:ByteArray) (hs:k+s.size≤1000000):
 ∃ v' w',(Builtin.append_ #[t,u] ty #[v,.string s]).run P w=.ok v' w'∧w'.ownsRow base e 1 v' (k+s.size) (xs ++ Lib.strCells s)∧Yb2 w v w' v':=by
 refine Ype hown hb (Lib.strCells_length s) ?_ ?_ ?_
 ·rintro rfl h0
  have hf:=Lib.run_firstCells_string (P:=P) w 1 s;rw [h0] at hf;simp [Builtin.append_,run_underlying ht,run_underlying hu,sizeOf,typeInfo,hi,h1,Builtin.lenOf,h0,hf]
 ·rintro g cap cur rfl hg hc hr
  exact Lib.run_append_room_string (P:=P) w t u ty e i ht hu hi h1 g k cap cur hg s hr (by omega)
 ·rintro ad cap rfl hc
  have hcl:grownCap w (k+s.size) cap e≤maxLen:=grownCap_le_maxLen w _ _ e (by unfold maxLen;omega);have hge:=grownCap_ge w (k+s.size) cap e;refine ⟨grownCap w (k+s.size) cap e,Builtin.zeroCells (Value.int .u8 0).cells (grownCap w (k+s.size) cap e - (k+s.size)),?_,by rw [size_zeroCells];simp [Value.cells];omega,hcl⟩;rcases hown.2 with ⟨h,rfl⟩ | ⟨g,cap',cur,h,_,hg,_,_,_,htake⟩
  ·simp at h
   obtain ⟨rfl,rfl⟩:=h;have hx:xs=[]:=List.eq_nil_of_length_eq_zero (by simpa using hown.1);subst hx;have hr:=run_append_nil_string (P:=P) w t u ty e i (.int .u8 0) ht hu hi hz s (by omega) (by omega) (by rw [hy];omega);rw [hr];have e1:(s.data.map fun b=>Value.int .u8 b.toNat)=(Lib.strCells s).toArray:=by
    apply Array.ext';simp [Lib.strCells]
   simp [e1]
  ·simp at h
   obtain ⟨rfl,rfl⟩:=h;have hr:=Lib.run_append_grow_string (P:=P) w t u ty e i (.int .u8 0) ht hu hi hz ⟨g,0,none⟩ k cap xs (by rw [h1];simpa using hown.1) (hown.cells (g:=g) rfl) s (by omega) (by omega) (by rw [hy];exact growslice_fits (by omega) (by omega));rw [hr];simp
theorem Ypf (n:Nat):Builtin.zeroCells (Value.int .u8 0).cells n=(List.replicate n (Value.int .u8 0)).toArray:=by
 apply Array.ext
 ·simp [size_zeroCells,Value.cells]
 ·intro i h1 h2
  simp [Builtin.zeroCells,Value.cells,Nat.mod_one]
theorem Yuw {P:Program} {i:TypeInfo} {kn:IntKind} (ht:P.underlying t=some (.slice e)) (hu:P.underlying u=some (.int kn)) (hi:P.info? e=some i) (hz:i.zero=some (.int .u8 0)) (h1:i.size=1) (hy:i.bytes=1)
 {v:Value} {k:Nat} {xs:List Value} (hown:w.ownsRow base e 1 v k xs) (hb:base≤w.heap.size) (n:Nat) (hs:k+n≤1000000):
 ∃ v' w',(Builtin.append_ #[t,u] ty #[v,.int .i64 n]).run P w=.ok v' w'∧w'.ownsRow base e 1 v' (k+n) (xs ++ List.replicate n (.int .u8 0))∧Yb2 w v w' v':=by
 have hw:IntKind.i64.wrap (n:Int)=n:=by rw [IntKind.wrap_i64];omega
 have hneg:¬((n:Int)<0):=by omega
 have h48i:¬(281474976710656<(n:Int)):=by omega
 refine Ype hown hb (by simp) ?_ ?_ ?_
 ·rintro rfl h0
  subst h0;simp [Builtin.append_,run_underlying ht,run_underlying hu,sizeOf,typeInfo,hi,hy,asInt,asIntOf,IntKind.wrap_i64]
 ·rintro g cap cur rfl hg hc hr
  have hst:=run_storeCells_at P g k e (List.replicate n (Value.int .u8 0)) 0 cur w hg (by simp;omega) (fun u hu=>by rw [List.eq_of_mem_replicate hu];rfl);simp only [Nat.add_zero,List.length_replicate] at hst;by_cases h0:n=0
  ·subst h0
   simp at hst;simp [Builtin.append_,run_underlying ht,run_underlying hu,sizeOf,typeInfo,hi,h1,hy,asInt,asIntOf,IntKind.wrap_i64,Addr.add_lit,hst,show k≤cap by omega]
  ·simp [Builtin.append_,run_underlying ht,run_underlying hu,sizeOf,typeInfo,zeroValue,hi,hz,h1,hy,asInt,asIntOf,hw,hneg,h48i,hr,h0,Ypf,Addr.add_lit,hst]
 ·rintro ad cap rfl hc
  have hcl:grownCap w (k+n) cap e≤maxLen:=grownCap_le_maxLen w _ _ e (by unfold maxLen;omega);have hge:=grownCap_ge w (k+n) cap e;refine ⟨grownCap w (k+n) cap e,Builtin.zeroCells (Value.int .u8 0).cells (grownCap w (k+n) cap e - (k+n)),?_,by rw [size_zeroCells];simp [Value.cells];omega,hcl⟩;have hn:¬(k+n≤cap):=by omega
  have h63':¬(9223372036854775807<((k:Int)+(n:Int))):=by omega
  have h48':¬(281474976710656<Builtin.nextslicecap (k+n) cap):=by have:=growslice_fits (bytes:=1) hc (by omega);omega
  have hf:(Builtin.firstCells 1 k (.slice ad k cap)).run P w.drew=.ok xs.toArray w.drew:=by
   rcases hown.2 with ⟨h,rfl⟩ | ⟨g,cap',cur,h,_,hg,_,_,_,htake⟩
   ·simp at h
    obtain ⟨rfl,rfl⟩:=h;have hx:xs=[]:=List.eq_nil_of_length_eq_zero (by simpa using hown.1);subst hx;simp [run_firstCells_none]
   ·simp at h
    obtain ⟨rfl,rfl⟩:=h;exact run_firstCells_some (P:=P) w.drew 1 k ⟨g,0,none⟩ k cap xs (by simpa using hown.1) (by simpa using hown.cells (g:=g) rfl)
  have h0:¬n=0:=by
   rcases hown.2 with ⟨h,rfl⟩ | ⟨g,cap',cur,h,_,hg,hle,_,_,htake⟩
   ·simp at h;omega
   ·simp at h;omega
  simp [Builtin.append_,run_underlying ht,run_underlying hu,sizeOf,typeInfo,zeroValue,hi,hz,h1,hy,asInt,asIntOf,hw,hneg,h48i,hn,h0,h63',h48',Ypf,Question.forced,hf,newRow,grownCap];congr 2;apply Array.ext';simp [List.append_assoc]
theorem Yaj (h:w.heap[k]? = some o):k<w.heap.size:=(Array.getElem?_eq_some_iff.1 h).1
theorem Yaa {b j:Nat} {cs:Array Value} {fz:Nat×Nat} (h:w.heap[b]? = some (.cells cs t fz)) (hv:cs[j]? = some v):w.cell? ⟨b,j,none⟩=some v:=by
 simp [World.cell?,h,hv]
theorem Yah {b:Nat} (j:Nat) {cs:Array Value} {t:TypeId} (h:w.heap[b]? = some (.cells cs t (0,0))):w.frozen? ⟨b,j,none⟩=false:=by
 simp [World.frozen?,h]
theorem Yak (w:World) (b j:Nat) (u:Value) (cs:Array Value) (t:TypeId) (h:w.heap[b]? = some (.cells cs t (0,0))):
 (w.setCell ⟨b,j,none⟩ u).heap[b]? = some (.cells (cs.setIfInBounds j u) t (0,0)):=by
 rw [setCell_eq_setRow w b j cs t (0,0) u h]
 exact setRow_heap w b cs _ t (0,0) h
theorem Yjt (h:w.ownsRow base e size v n xs):∃ ad cap,v=.slice ad n cap:=by
 rcases h.2 with ⟨h2,rfl⟩ | ⟨g,cap,cur,h2,_⟩
 ·exact ⟨_,_,h2⟩
 ·exact ⟨_,_,h2⟩
theorem Yhw (h:w.ownsRow base e 1 v n xs) (h0:0<n):
 ∃ g cap cur,v=.slice (some ⟨g,0,none⟩) n cap∧base≤g∧w.heap[g]? = some (.cells cur e (0,0))∧n≤cap∧(∀ (j:Nat) u,xs[j]? = some u→cur[j]? = some u):=by
 rcases h.2 with ⟨_,h⟩ | ⟨g,cap,cur,h1,h2,h3,h4,_,_,h5⟩
 ·omega
 ·refine ⟨g,cap,cur,h1,h2,h3,h4,fun j u hu=>?_⟩
  rw [←h5,List.getElem?_take] at hu;split at hu
  ·simpa using hu
  ·cases hu
theorem Yux (h:w.ownsRow base e 1 (.slice (some ⟨g,0,none⟩) n cap) n xs) (j:Nat) (u:Value):
 (w.setCell ⟨g,j,none⟩ u).ownsRow base e 1 (.slice (some ⟨g,0,none⟩) n cap) n (xs.set j u):=by
 rcases h.2 with ⟨h1,_⟩ | ⟨g',cap',cur,h1,h2,h3,h4,h5,h6,h7⟩
 ·cases h1
 ·simp at h1
  obtain ⟨rfl,rfl⟩:=h1;refine ⟨by simpa using h.1,.inr ⟨g,cap,_,rfl,h2,Yak w g j u cur e h3,h4,h5,by simpa using h6,?_⟩⟩;rw [←h7];simp [List.take_set]
theorem Yb2.store (h:Yb2 w v w1 (.slice (some ⟨g,0,none⟩) n cap)) (j:Nat) (u:Value):Yb2 w v (w1.setCell ⟨g,j,none⟩ u) (.slice (some ⟨g,0,none⟩) n cap):=
 h.trans ⟨⟨rfl,rfl,rfl,by simp [World.setCell],fun k _ hne=>Below.heap_setCell _ _ _ _ (fun e=>hne (by simp [Value.ownBlock,e]))⟩,.inl rfl⟩
def be (n:Int):Nat→List Value
 | 0=>[]
 | k+1=>.int .u8 (n / 2 ^ (8*k) % 256) :: be n k
theorem Yeq (n:Int) (k:Nat):(be n k).length=k:=by induction k <;> simp_all [be]
abbrev Yaf:=List (ByteArray×ByteArray)
def Yad (ps:Yaf):List Value:=ps.flatMap fun p=>[.string p.1,.string p.2]
theorem Yds (ps:Yaf):(Yad ps).length=ps.length*2:=by
 induction ps with
 | nil=>rfl
 | cons p r ih=>simp only [Yad,List.flatMap_cons,List.length_append,List.length_cons,List.length_nil] at *;omega
theorem Yg5 (ps qs:Yaf):Yad (ps ++ qs)=Yad ps ++ Yad qs:=by simp [Yad]
theorem Ye2:∀ (ps:Yaf) (i:Nat) (p:ByteArray×ByteArray),ps[i]? = some p→(Yad ps)[i*2]? = some (.string p.1)∧(Yad ps)[i*2+1]? = some (.string p.2)
 | [],i,p,h=>by simp at h
 | q :: r,0,p,h=>by simp at h;subst h;simp [Yad]
 | q :: r,i+1,p,h=>by
  have:=Ye2 r i p (by simpa using h);simp only [Yad,List.flatMap_cons,Nat.succ_mul,List.cons_append,List.nil_append,Nat.add_assoc] at *;exact ⟨this.1,this.2⟩
theorem Yal (h:w.ownsRow base e size (.slice (some ⟨g,0,none⟩) n cap) n xs) {j:Nat} {u:Value} (hu:xs[j]? = some u):w.cell? ⟨g,j,none⟩=some u:=by
 rcases h.2 with ⟨h1,_⟩ | ⟨g',cap',cur,h1,h2,h3,h4,h5,h6,h7⟩
 ·cases h1
 ·simp at h1
  obtain ⟨rfl,rfl⟩:=h1;refine Yaa h3 ?_;rw [←h7,List.getElem?_take] at hu;split at hu
  ·simpa using hu
  ·cases hu
theorem Ybn (h:w.ownsRow base e size v n xs) (hn:0<n):∃ g cap,v=.slice (some ⟨g,0,none⟩) n cap:=by
 rcases h.2 with ⟨_,h⟩ | ⟨g,cap,cur,h,_⟩
 ·omega
 ·exact ⟨g,cap,h⟩
theorem Ya6 (h:w.ownsRow base e size v n xs):∃ p cap,v=.slice p n cap∧n≤maxLen:=by
 rcases h.2 with ⟨h,h0⟩ | ⟨g,cap,cur,h,_,_,h1,h2,_⟩
 ·exact ⟨none,0,by rw [h,h0],by omega⟩
 ·exact ⟨some ⟨g,0,none⟩,cap,h,by omega⟩
theorem Ybe (h:w.ownsRow base e size v n xs) (hb:Below B w w') (hB:∀ g,v.ownBlock=some g→g<B):w'.ownsRow base e size v n xs:=by
 refine ⟨h.1,?_⟩;rcases h.2 with h1 | ⟨g,cap,cur,h1,h2,h3,h4⟩
 ·exact .inl h1
 ·refine .inr ⟨g,cap,cur,h1,h2,?_,h4⟩
  rw [hb.block g (hB g (by rw [h1];rfl))];exact h3
theorem Yfg {base':Nat} (h:w.ownsRow base e size v n xs) (hb:base'≤base):w.ownsRow base' e size v n xs:=by
 refine ⟨h.1,?_⟩;rcases h.2 with h1 | ⟨g,cap,cur,h1,h2,h3⟩
 ·exact .inl h1
 ·exact .inr ⟨g,cap,cur,h1,by omega,h3⟩
theorem toList_inj (h:a.toList=b.toList):a=b:=by
 rw [Lib.toList_data,Lib.toList_data] at h;exact ByteArray.ext (Array.ext' h)
theorem Yg6 (h:a≠b):(a.toList == b.toList)=false:=by
 simp only [beq_eq_false_iff_ne,ne_eq];exact fun e=>h (toList_inj e)
def Yag:Yaf→ByteArray→Bool×ByteArray
 | [],_=>(false,ByteArray.empty)
 | p :: r,k=>if p.1=k then (true,p.2) else Yag r k
theorem Ykx (base:Nat) (v:Value) (ps:Yaf) (key:ByteArray) (w:World) (hown:w.ownsRow base 43 2 v ps.length (Yad ps)):
 Calls prog 136 #[v,.string key] w fun e w'=>e=.returned (.agg #[.bool (Yag ps key).1,.string (Yag ps key).2])∧Below w.heap.size w w':=by
 obtain ⟨p,cap,rfl,hmax⟩:=Ya6 hown
 unfold maxLen at hmax
 go_enter func136,ntmps136
 go_wp2
 have hnew:=heap_alloc_new w (.cells #[.bool false,.string ByteArray.empty] 38)
 have hB:Below w.heap.size w (w.alloc (.cells #[.bool false,.string ByteArray.empty] 38)):=(Below.refl _ _).alloc (Nat.le_refl _) _
 have hown1:=hown.alloc (.cells #[.bool false,.string ByteArray.empty] 38)
 change Code.wp _ _ _ _ (w.alloc (.cells #[.bool false,.string ByteArray.empty] 38))
 revert hnew hB hown1
 generalize w.alloc (.cells #[.bool false,.string ByteArray.empty] 38)=w1
 intro hnew hB hown1
 have n0:w1.cell? ⟨w.heap.size,0,none⟩=some (.bool false):=Yaa hnew rfl
 have n1:w1.cell? ⟨w.heap.size,1,none⟩=some (.string ByteArray.empty):=Yaa hnew rfl
 have f0:=Yah 0 hnew
 have f1:=Yah 1 hnew
 have HN:=Yh hnew
 have HB:=Yh hB
 clear hnew hB hown
 go_loopw [5] (fun i wr=>∃ k:Nat,k≤ps.length∧i=.int .i64 k∧wr=w1∧Yag ps key=Yag (ps.drop k) key) (fun i _=>ps.length - (intOf i).toNat)
 case atStart=>exact ⟨0,by omega,rfl,rfl,by simp⟩
 case round=>
  obtain ⟨k,hk,rfl,rfl,hu⟩:=hrel;by_cases hlt:k<ps.length
  ·have hlt':(k:Int)<(ps.length:Int):=by omega
   obtain ⟨g,cap',he⟩:=Ybn hown1 (by omega);simp only [Value.slice.injEq] at he;obtain ⟨rfl,-,rfl⟩:=he;obtain ⟨hc0,hc1⟩:=Ye2 ps k ps[k] (List.getElem?_eq_getElem hlt);have c0:=Yal hown1 hc0;have c1:=Yal hown1 hc1;have hu1:Yag ps key=if ps[k].1=key then (true,ps[k].2) else Yag (ps.drop (k+1)) key:=by
    rw [hu,List.drop_eq_getElem_cons hlt];rfl
   clear hu hc0 hc1;generalize ps[k]=pk at c0 c1 hu1;obtain ⟨k0,v0⟩:=pk;simp only at c0 c1 hu1;by_cases hkey:k0=key
   ·subst hkey
    rw [if_pos rfl] at hu1;have HF:Hid (((wr.setCell ⟨w.heap.size,0,none⟩ (.bool true)).setCell ⟨w.heap.size,1,none⟩ (.string v0)).heap[w.heap.size]? = some (.cells #[.bool true,.string v0] 38 (0,0))):=by
     exact (Yak _ _ 1 _ _ _ (Yak _ _ 0 _ _ _ HN.out)).trans rfl
    go_wp2;refine bodyPost_ret (v:=.agg #[.bool true,.string v0]) ?_ rfl ⟨by rw [hu1],?_⟩
    ·exact results_cell_row Tryz.results136 _ _ w.heap.size 38 #[.bool true,.string v0] (0,0) _ rfl HF.out underlying38 rfl (by kernel_rfl)
    ·exact (HB.out.setCell (p:=⟨w.heap.size,0,none⟩) (Nat.le_refl _) _).setCell (p:=⟨w.heap.size,1,none⟩) (Nat.le_refl _) _
   ·rw [if_neg hkey] at hu1
    have hke:=Yg6 hkey;go_wp2;exact ⟨⟨k+1,by omega,by simp,trivial,hu1⟩,by simp [intOf];omega⟩
  ·have hlt':¬(k:Int)<(ps.length:Int):=by omega
   have hu1:Yag ps key=(false,ByteArray.empty):=by rw [hu,List.drop_eq_nil_of_le (by omega)];rfl
   clear hu;have HF:Hid (((wr.setCell ⟨w.heap.size,0,none⟩ (.bool false)).setCell ⟨w.heap.size,1,none⟩ (.string ByteArray.empty)).heap[w.heap.size]? = some (.cells #[.bool false,.string ByteArray.empty] 38 (0,0))):=by
    exact (Yak _ _ 1 _ _ _ (Yak _ _ 0 _ _ _ HN.out)).trans rfl
   go_wp2;refine bodyPost_ret (v:=.agg #[.bool false,.string ByteArray.empty]) ?_ rfl ⟨by first | rfl | rw [hu1],?_⟩
   ·exact results_cell_row Tryz.results136 _ _ w.heap.size 38 #[.bool false,.string ByteArray.empty] (0,0) _ rfl HF.out underlying38 rfl (by kernel_rfl)
   ·exact (HB.out.setCell (p:=⟨w.heap.size,0,none⟩) (Nat.le_refl _) _).setCell (p:=⟨w.heap.size,1,none⟩) (Nat.le_refl _) _
def Yby (key val:ByteArray) (st:Yaf×Bool) (p:ByteArray×ByteArray):Yaf×Bool:=
 let st1:=if st.2=false∧(key.toList<p.1.toList∨key=p.1) then (st.1 ++ [(key,val)],true) else st
 if p.1=key then st1 else (st1.1 ++ [p],st1.2)
def Yhx (l:Yaf) (key val:ByteArray) (is:Bool):Yaf×Bool:=l.foldl (Yby key val) ([],!is)
def Yaw (l:Yaf) (key:ByteArray) (is:Bool) (val:ByteArray):Yaf:=
 let st:=Yhx l key val is
 if st.2 then st.1 else st.1 ++ [(key,val)]
theorem Ygj:(prog.info? 43).map (fun i=>(i.zero,i.size,i.bytes))=some (some (.agg #[.string ByteArray.empty,.string ByteArray.empty]),2,32):=by kernel_rfl
def Yd7 (ps:Yaf) (key val:ByteArray) (is:Bool) (k:Nat):Yaf×Bool:=(ps.take k).foldl (Yby key val) ([],!is)
theorem Ypg (ps:Yaf) (key val:ByteArray) (is:Bool) (k:Nat) (h:k<ps.length):Yd7 ps key val is (k+1)=Yby key val (Yd7 ps key val is k) ps[k]:=by
 simp only [Yd7];rw [List.take_succ_eq_append_getElem h,List.foldl_append];rfl
theorem Yuy (key val:ByteArray) (st:Yaf×Bool) (p:ByteArray×ByteArray):(Yby key val st p).1.length≤st.1.length+2:=by
 unfold Yby;simp only;split <;> split <;> simp
theorem Ymi (ps:Yaf) (key val:ByteArray) (is:Bool):∀ k,k≤ps.length→(Yd7 ps key val is k).1.length≤2*k
 | 0,_=>by simp [Yd7]
 | k+1,h=>by
  rw [Ypg ps key val is k (by omega)];have:=Yuy key val (Yd7 ps key val is k) ps[k];have:=Ymi ps key val is k (by omega);omega
theorem Yph (h:¬a.toList<b.toList):Op.bytesLess a.toList b.toList=false:=by
 rw [bytesLess_eq];simpa using h
theorem Ypi (h:a.toList<b.toList):Op.bytesLess a.toList b.toList=true:=by
 rw [bytesLess_eq];simpa using h
theorem Ymj (hg:w.grownBy w' v.ownBlock) (ho:w.ownsRow base e size v n xs) (hB:B≤base) (hs:B≤w.heap.size):Below B w w':=
 ⟨hg.os,hg.tape,hg.output,hg.size,fun k hk=>hg.block k (by omega) (fun h=>by have:=(ho.lt k h.symm).1;omega)⟩
theorem Ydf (g j:Nat):(⟨g,0,none⟩:Addr).add j=⟨g,j,none⟩:=by unfold Addr.add;split <;> simp_all
theorem Ypj {l:Yaf} (h:w.ownsRow base 43 2 v (l.length+1) (Yad l ++ [.string a,.string b])):w.ownsRow base 43 2 v (l ++ [(a,b)]).length (Yad (l ++ [(a,b)])):=by
 rw [Yg5,List.length_append];exact h
theorem Yg7 {ops:Array Oper} {rest:List Oper} {o:Oper} {ac:Act} {Q:Exit→Act→World→Prop} (hgd:o.guard=none) (s x:Operand)
 (ho:o.op=.call { callee:=.builtin .append,args:=#[s,x],argTypes:=#[34,34] }) (base:Nat) (v:Value) (l:Yaf) (hs:ac.eval s=v) (hown:w.ownsRow base 43 2 v l.length (Yad l))
 (g:Nat) (a b:ByteArray) (hx:ac.eval x=.slice (some ⟨g,0,none⟩) 1 1) (hg:w.heap[g]? = some (.cells #[.string a,.string b] 43 (0,0))) (hlen:l.length≤1000000) (hbase:base≤w.heap.size)
 (h:∀ v' w',w'.ownsRow base 43 2 v' (l ++ [(a,b)]).length (Yad (l ++ [(a,b)]))→Below base w w'→wpList prog ops Q rest (ac.put o.dst v') w'):wpList prog ops Q (o :: rest) ac w:=by
 obtain ⟨i0,hi,hz0,hz1,hz2⟩:=info_parts Ygj
 refine wpList_append_own_at w hgd s x 34 ho base 43 i0 _ 2 32 underlying34 hi hz0 hz1 hz2 rfl (by decide) v l.length (Yad l) hs hown ⟨g,0,none⟩ 1 1 [.string a,.string b] hx rfl (fun j u hu=>by rw [Ydf];exact Yaa hg (by simpa using hu)) (fun x hx=>by simp at hx;rcases hx with rfl | rfl <;> rfl) (by unfold maxLen;omega) (by omega) hbase ?_
 intro v' w' h1 h2 _ _
 exact h v' w' (Ypj h1) (Ymj h2 hown (Nat.le_refl _) hbase)
theorem Yky (base:Nat) (v:Value) (ps:Yaf) (key:ByteArray) (is:Bool) (val:ByteArray) (w:World) (hown:w.ownsRow base 43 2 v ps.length (Yad ps)) (hlen:ps.length≤100000):
 Calls prog 134 #[v,.string key,.agg #[.bool is,.string val]] w fun e w'=>∃ v',e=.returned v'∧w'.ownsRow w.heap.size 43 2 v' (Yaw ps key is val).length (Yad (Yaw ps key is val))∧Below w.heap.size w w':=by
 obtain ⟨p,cap,rfl,hmax⟩:=Ya6 hown
 clear hmax
 go_enter func134,ntmps134
 go_wp2
 have hB:Below w.heap.size w (w.alloc (.cells #[.bool is,.string val] 38)):=(Below.refl _ _).alloc (Nat.le_refl _) _
 have hnew:=heap_alloc_new w (.cells #[.bool is,.string val] 38)
 have hown1:=hown.alloc (.cells #[.bool is,.string val] 38)
 have hz:(w.alloc (.cells #[.bool is,.string val] 38)).heap.size=w.heap.size+1:=by simp
 have hlt0:∀ g,(Value.slice p ps.length cap).ownBlock=some g→g<w.heap.size:=fun g hg=>(hown.lt g hg).2
 revert hB hnew hown1 hz
 generalize w.alloc (.cells #[.bool is,.string val] 38)=w1
 intro hB hnew hown1 hz
 clear hown
 go_loopw [7,8,9] (fun u d i wr=>∃ k:Nat,k≤ps.length∧i=.int .i64 k∧d=.bool (Yd7 ps key val is k).2∧wr.ownsRow (w.heap.size+1) 43 2 u (Yd7 ps key val is k).1.length (Yad (Yd7 ps key val is k).1)∧Below (w.heap.size+1) w1 wr) (fun _ _ i _=>ps.length - (intOf i).toNat)
 case atStart=>exact ⟨0,by omega,rfl,rfl,World.ownsRow_nil _ _ _ _,Below.refl _ _⟩
 case round=>
  obtain ⟨k,hk,rfl,rfl,hout,hbr⟩:=hrel;have hsz:=hbr.size;have hownr:wr.ownsRow base 43 2 (.slice p ps.length cap) ps.length (Yad ps):=Ybe hown1 hbr (fun g hg=>by have:=hlt0 g hg;omega);have c5:wr.cell? ⟨w.heap.size,1,none⟩=some (.string val):=(hbr.cell (by simp)).trans (Yaa hnew rfl);have HBR:=Yh hbr;by_cases hlt:k<ps.length
  ·have hlt':(k:Int)<(ps.length:Int):=by omega
   obtain ⟨g,cap',he⟩:=Ybn hownr (by omega);simp only [Value.slice.injEq] at he;obtain ⟨rfl,-,rfl⟩:=he;obtain ⟨hc0,hc1⟩:=Ye2 ps k ps[k] (List.getElem?_eq_getElem hlt);have c0:=Yal hownr hc0;have c1:=Yal hownr hc1;have hL:=Ymi ps key val is k (by omega);have hS:=Ypg ps key val is k hlt;have hgl:g<w.heap.size:=hlt0 g rfl;clear hc0 hc1 hbr;generalize ps[k]=pk at c0 c1 hS;obtain ⟨k0,v0⟩:=pk;simp only at c0 c1;have HS:=Yh hS;clear hS;generalize Yd7 ps key val is k=st at hout hL HS;obtain ⟨out,dn⟩:=st;simp only at hout hL;have tok1:True:=trivial;have tok2:True:=trivial
   cases dn with
   | true=>
    by_cases he:k0=key
    ·have hw':Yby key val (out,true) (k0,v0)=(out,true):=by simp [Yby,he]
     subst he;go_wp2;refine ⟨⟨k+1,by omega,by simp,?_,?_,HBR.out⟩,by simp [intOf];omega⟩
     ·rw [HS.out,hw']
     ·rw [HS.out,hw'];exact hout
    ·have hw':Yby key val (out,true) (k0,v0)=(out ++ [(k0,v0)],true):=by simp [Yby,he]
     have he':=Yg6 he;go_wp2_with (first
      | (at_builtin;have _t:=tok2;go_must (
       refine Yg7 rfl _ _ rfl (w.heap.size+1) _ out rfl (hout.alloc _) wr.heap.size k0 v0 rfl (heap_alloc_new _ _) (by omega) (by simp;omega) ?_;intro v5 w5 hown5 hb5;have HB5:Hid (Below (w.heap.size+1) w1 w5):=HBR.out.trans (((Below.refl _ _).alloc (by omega) _).trans hb5);clear hb5 tok2)))
     refine ⟨⟨k+1,by omega,by simp,?_,?_,HB5.out⟩,by simp [intOf];omega⟩
     ·rw [HS.out,hw']
     ·rw [HS.out,hw'];exact hown5
   | false=>
    by_cases he:k0=key
    ·have he2:=he.symm
     subst he2;have hw':Yby key val (out,false) (key,v0)=(out ++ [(key,val)],true):=by simp [Yby]
     go_wp2_with (first
      | (at_builtin;have _t:=tok1;go_must (
       refine Yg7 rfl _ _ rfl (w.heap.size+1) _ out rfl (hout.alloc _) wr.heap.size key val rfl (heap_alloc_new _ _) (by omega) (by simp;omega) ?_;intro v4 w4 hown4 hb4';have hb4:Below (w.heap.size+1) wr w4:=((Below.refl _ _).alloc (by omega) _).trans hb4';have HB4:Hid (Below (w.heap.size+1) w1 w4):=HBR.out.trans hb4;have d0:w4.cell? ⟨g,k*2,none⟩=some (.string key):=(hb4.cell (by simp;omega)).trans c0;have d1:w4.cell? ⟨g,k*2+1,none⟩=some (.string v0):=(hb4.cell (by simp;omega)).trans c1;have hs4:=hb4.size;clear hb4 hb4' tok1)))
     refine ⟨⟨k+1,by omega,by simp,?_,?_,HB4.out⟩,by simp [intOf];omega⟩
     ·rw [HS.out,hw']
     ·rw [HS.out,hw'];exact hown4
    ·have he':=Yg6 he
     have he3:=Yg6 (Ne.symm he);by_cases hl:key.toList<k0.toList
     ·have hl':=Ypi hl
      have hw':Yby key val (out,false) (k0,v0)=(out ++ [(key,val)] ++ [(k0,v0)],true):=by simp [Yby,he,hl]
      go_wp2_with (first
       | (at_builtin;have _t:=tok1;go_must (
        refine Yg7 rfl _ _ rfl (w.heap.size+1) _ out rfl (hout.alloc _) wr.heap.size key val rfl (heap_alloc_new _ _) (by omega) (by simp;omega) ?_;intro v4 w4 hown4 hb4';have hb4:Below (w.heap.size+1) wr w4:=((Below.refl _ _).alloc (by omega) _).trans hb4';have HB4:Hid (Below (w.heap.size+1) w1 w4):=HBR.out.trans hb4;have d0:w4.cell? ⟨g,k*2,none⟩=some (.string k0):=(hb4.cell (by simp;omega)).trans c0;have d1:w4.cell? ⟨g,k*2+1,none⟩=some (.string v0):=(hb4.cell (by simp;omega)).trans c1;have hs4:=hb4.size;clear hb4 hb4' tok1))
       | (at_builtin;have _t:=tok2;go_must (
        refine Yg7 rfl _ _ rfl (w.heap.size+1) _ (out ++ [(key,val)]) rfl (hown4.alloc _) w4.heap.size k0 v0 rfl (heap_alloc_new _ _) (by simp;omega) (by simp;omega) ?_;intro v5 w5 hown5 hb5;have HB5:Hid (Below (w.heap.size+1) w1 w5):=HB4.out.trans (((Below.refl _ _).alloc (by omega) _).trans hb5);clear hb5 tok2)))
      refine ⟨⟨k+1,by omega,by simp,?_,?_,HB5.out⟩,by simp [intOf];omega⟩
      ·rw [HS.out,hw']
      ·rw [HS.out,hw'];exact hown5
     ·have hl':=Yph hl
      have hw':Yby key val (out,false) (k0,v0)=(out ++ [(k0,v0)],false):=by simp [Yby,he,hl,Ne.symm he]
      go_wp2_with (first
       | (at_builtin;have _t:=tok2;go_must (
        refine Yg7 rfl _ _ rfl (w.heap.size+1) _ out rfl (hout.alloc _) wr.heap.size k0 v0 rfl (heap_alloc_new _ _) (by omega) (by simp;omega) ?_;intro v5 w5 hown5 hb5;have HB5:Hid (Below (w.heap.size+1) w1 w5):=HBR.out.trans (((Below.refl _ _).alloc (by omega) _).trans hb5);clear hb5 tok2)))
      refine ⟨⟨k+1,by omega,by simp,?_,?_,HB5.out⟩,by simp [intOf];omega⟩
      ·rw [HS.out,hw']
      ·rw [HS.out,hw'];exact hown5
  ·have hlt':¬(k:Int)<(ps.length:Int):=by omega
   have hkk:k=ps.length:=by omega
   have hw':Yaw ps key is val=if (Yd7 ps key val is k).2 then (Yd7 ps key val is k).1 else (Yd7 ps key val is k).1 ++ [(key,val)]:=by
    subst hkk;simp only [Yaw,Yhx,Yd7,List.take_length];rfl
   have hL:=Ymi ps key val is k (by omega);have HW:=Yh hw';clear hw' hbr;generalize Yd7 ps key val is k=st at hout hL HW;obtain ⟨out,dn⟩:=st;simp only at hout hL
   cases dn with
   | true=>
    go_wp2;go_ret;refine ⟨_,rfl,?_,hB.trans (HBR.out.mono (by omega))⟩;rw [HW.out];exact Yfg hout (by omega)
   | false=>
    have tok1:True:=trivial;go_wp2_with (first
     | (at_builtin;have _t:=tok1;go_must (
      refine Yg7 rfl _ _ rfl (w.heap.size+1) _ out rfl (hout.alloc _) wr.heap.size key val rfl (heap_alloc_new _ _) (by omega) (by simp;omega) ?_;intro v4 w4 hown4 hb4';have HB4:Hid (Below (w.heap.size+1) w1 w4):=HBR.out.trans (((Below.refl _ _).alloc (by omega) _).trans hb4');clear hb4' tok1)))
    go_ret;refine ⟨_,rfl,?_,hB.trans (HB4.out.mono (by omega))⟩;rw [HW.out];exact Yfg hown4 (by omega)
abbrev Ycl:=List (ByteArray×Bool×ByteArray)
def Yco (ws:Ycl):List Value:=ws.flatMap fun p=>[.string p.1,.bool p.2.1,.string p.2.2]
theorem Yuz (ps qs:Ycl):Yco (ps ++ qs)=Yco ps ++ Yco qs:=by simp [Yco]
theorem Yik:∀ (ws:Ycl) (i:Nat) (p:ByteArray×Bool×ByteArray),ws[i]? = some p→(Yco ws)[i*3]? = some (.string p.1)∧(Yco ws)[i*3+1]? = some (.bool p.2.1)∧(Yco ws)[i*3+2]? = some (.string p.2.2)
 | [],i,p,h=>by simp at h
 | q :: r,0,p,h=>by simp at h;subst h;simp [Yco]
 | q :: r,i+1,p,h=>by
  have:=Yik r i p (by simpa using h);simp only [Yco,List.flatMap_cons,Nat.succ_mul,List.cons_append,List.nil_append,Nat.add_assoc] at *;exact this
def Yb3:Ycl→ByteArray→Option (Bool×ByteArray)
 | [],_=>none
 | p :: r,k=>if p.1=k then some p.2 else Yb3 r k
theorem Ygk {P:Program} {fn:Func} {p u:Tmp} {ty:TypeId} (h:fn.results=#[.cell p ty,.tmp u]) (tmps:Array Value) (w:World) (g:Nat) (t:TypeId) (cs:Array Value) (fr:Nat×Nat) (d:TypeDesc) (v:Value)
 (hp:tmps.getD p undef=.pointer (some ⟨g,0,none⟩)) (hg:w.heap[g]? = some (.cells cs t fr))
 (hu:P.underlying ty=some d) (hd:(match d with | .struct _ | .array _ _=>true | _=>false)=true) (hi:(P.info? ty).map (·.size)=some cs.size) (hv:tmps.getD u undef=v):
 (results fn tmps).run P w=.ok (.tuple #[.agg cs,v]) w:=by
 rw [results_cell_tmp h,hp,hv]
 simp [asAddr,run_loadVar_row w g t ty cs fr d hg hu hd hi]
theorem Ykz (b o:Nat) (vw:Value) (ws:Ycl) (key:ByteArray) (w:World) (hc:w.cell? ⟨b,o+3,none⟩=some vw) (hown:w.ownsRow 0 206 3 vw ws.length (Yco ws)) (hlen:ws.length≤100000):
 Calls prog 135 #[.pointer (some ⟨b,o,none⟩),.string key] w fun e w'=>e=.returned (.tuple #[.agg #[.bool ((Yb3 ws key).getD (false,ByteArray.empty)).1,.string ((Yb3 ws key).getD (false,ByteArray.empty)).2],.bool (Yb3 ws key).isSome])∧Below w.heap.size w w':=by
 obtain ⟨p,cap,rfl,hmax⟩:=Ya6 hown
 clear hmax
 have hbw:b<w.heap.size:=World.block_lt_of_cell? w _ hc
 have HX:Hid (∀ w1,(w.alloc (.cells #[.bool false,.string ByteArray.empty] 38))=w1→w1.cell? ⟨b,o+3,none⟩=some (.slice p ws.length cap)∧w1.ownsRow 0 206 3 (.slice p ws.length cap) ws.length (Yco ws)∧w1.heap[w.heap.size]? = some (.cells #[.bool false,.string ByteArray.empty] 38 (0,0))∧Below w.heap.size w w1):=by
  rintro w1 rfl;exact ⟨(((Below.refl _ _).alloc (Nat.le_refl _) _).cell hbw).trans hc,hown.alloc _,heap_alloc_new w _,(Below.refl _ _).alloc (Nat.le_refl _) _⟩
 go_enter func135,ntmps135
 go_wp2
 change Code.wp _ _ _ _ (w.alloc (.cells #[.bool false,.string ByteArray.empty] 38))
 obtain ⟨hc1,hown1,hnew,hB⟩:=HX.out _ rfl
 revert hc1 hown1 hnew hB
 generalize w.alloc (.cells #[.bool false,.string ByteArray.empty] 38)=w1
 intro hc1 hown1 hnew hB
 have n0:w1.cell? ⟨w.heap.size,0,none⟩=some (.bool false):=Yaa hnew rfl
 have n1:w1.cell? ⟨w.heap.size,1,none⟩=some (.string ByteArray.empty):=Yaa hnew rfl
 have f0:=Yah 0 hnew
 have f1:=Yah 1 hnew
 have HN:=Yh hnew
 have HB:=Yh hB
 clear hnew hB hown HX hc
 go_loopw [6] (fun i wr=>∃ k:Nat,k≤ws.length∧i=.int .i64 k∧wr=w1∧Yb3 ws key=Yb3 (ws.drop k) key) (fun i _=>ws.length - (intOf i).toNat)
 case atStart=>exact ⟨0,by omega,rfl,rfl,by simp⟩
 case round=>
  obtain ⟨k,hk,rfl,rfl,hu⟩:=hrel;by_cases hlt:k<ws.length
  ·have hlt':(k:Int)<(ws.length:Int):=by omega
   obtain ⟨g,cap',he⟩:=Ybn hown1 (by omega);simp only [Value.slice.injEq] at he;obtain ⟨rfl,-,rfl⟩:=he;obtain ⟨d0,d1,d2⟩:=Yik ws k ws[k] (List.getElem?_eq_getElem hlt);have c0:=Yal hown1 d0;have c1:=Yal hown1 d1;have c2:=Yal hown1 d2;have hu1:Yb3 ws key=if ws[k].1=key then some ws[k].2 else Yb3 (ws.drop (k+1)) key:=by
    rw [hu,List.drop_eq_getElem_cons hlt];rfl
   clear hu d0 d1 d2;generalize ws[k]=pk at c0 c1 c2 hu1;obtain ⟨k0,b0,v0⟩:=pk;simp only at c0 c1 c2 hu1;by_cases hkey:k0=key
   ·subst hkey
    rw [if_pos rfl] at hu1;have HU:=Yh hu1;have m0:=Yak wr w.heap.size 0 (.bool b0) _ _ HN.out;have m1:=Yak _ w.heap.size 1 (.string v0) _ _ m0;have HF:Hid (((wr.setCell ⟨w.heap.size,0,none⟩ (.bool b0)).setCell ⟨w.heap.size,1,none⟩ (.string v0)).heap[w.heap.size]? = some (.cells #[.bool b0,.string v0] 38 (0,0))):=m1.trans rfl;clear m0 m1 hu1;go_wp2;refine bodyPost_ret (v:=.tuple #[.agg #[.bool b0,.string v0],.bool true]) ?_ rfl ⟨by rw [HU.out];rfl,?_⟩
    ·exact Ygk Tryz.results135 _ _ w.heap.size 38 #[.bool b0,.string v0] (0,0) _ _ rfl HF.out underlying38 rfl (by kernel_rfl) rfl
    ·exact (HB.out.setCell (p:=⟨w.heap.size,0,none⟩) (Nat.le_refl _) _).setCell (p:=⟨w.heap.size,1,none⟩) (Nat.le_refl _) _
   ·rw [if_neg hkey] at hu1
    have hke:=Yg6 hkey;go_wp2;exact ⟨⟨k+1,by omega,by simp,trivial,hu1⟩,by simp [intOf];omega⟩
  ·have hlt':¬(k:Int)<(ws.length:Int):=by omega
   have hu1:Yb3 ws key=none:=by rw [hu,List.drop_eq_nil_of_le (by omega)];rfl
   have HU:=Yh hu1;clear hu hu1;have HF:Hid (((wr.setCell ⟨w.heap.size,0,none⟩ (.bool false)).setCell ⟨w.heap.size,1,none⟩ (.string ByteArray.empty)).heap[w.heap.size]? = some (.cells #[.bool false,.string ByteArray.empty] 38 (0,0))):=by
    exact (Yak _ _ 1 _ _ _ (Yak _ _ 0 _ _ _ HN.out)).trans rfl
   go_wp2;refine bodyPost_ret (v:=.tuple #[.agg #[.bool false,.string ByteArray.empty],.bool false]) ?_ rfl ⟨by rw [HU.out];rfl,?_⟩
   ·exact Ygk Tryz.results135 _ _ w.heap.size 38 #[.bool false,.string ByteArray.empty] (0,0) _ _ rfl HF.out underlying38 rfl (by kernel_rfl) rfl
   ·exact (HB.out.setCell (p:=⟨w.heap.size,0,none⟩) (Nat.le_refl _) _).setCell (p:=⟨w.heap.size,1,none⟩) (Nat.le_refl _) _
structure TxV where
 (id last:Int)
 (read:List ByteArray)
 (writes:Ycl)
 (updates:List Int)
structure TxS where
 (vr vw vu:Value)
def Ye3 (p:TxV×TxS):List Value:=[.int .i64 p.1.id,.int .i64 p.1.last,p.2.vr,p.2.vw,p.2.vu]
def Ya1 (l:List (TxV×TxS)):List Value:=l.flatMap Ye3
theorem Yk0 (l:List (TxV×TxS)):(Ya1 l).length=l.length*5:=by
 induction l with
 | nil=>rfl
 | cons p r ih=>simp only [Ya1,Ye3,List.flatMap_cons,List.length_append,List.length_cons,List.length_nil] at *;omega
theorem Yb4:∀ (l:List (TxV×TxS)) (i:Nat) (p:TxV×TxS),l[i]? = some p→∀ j u,(Ye3 p)[j]? = some u→(Ya1 l)[i*5+j]? = some u
 | [],i,p,h,_,_,_=>by simp at h
 | q :: r,0,p,h,j,u,hu=>by
  simp at h;subst h;have hj:=(List.getElem?_eq_some_iff.1 hu).1;rw [Ya1,List.flatMap_cons,List.getElem?_append_left (by simpa using hj)];simpa using hu
 | q :: r,i+1,p,h,j,u,hu=>by
  have:=Yb4 r i p (by simpa using h) j u hu;have hl:(Ye3 q).length=5:=rfl;rw [Ya1,List.flatMap_cons,List.getElem?_append_right (by rw [hl];omega),hl,show (i+1)*5+j - 5=i*5+j by omega];exact this
def Yc9 (w:World) (p:TxV×TxS):Prop:=
 w.ownsRow 0 9 1 p.2.vr p.1.read.length (p.1.read.map Value.string)∧w.ownsRow 0 206 3 p.2.vw p.1.writes.length (Yco p.1.writes)∧w.ownsRow 0 3 1 p.2.vu p.1.updates.length (p.1.updates.map (Value.int .i64)) ∧
  p.1.read.length≤2000000000000∧p.1.writes.length≤100000∧p.1.updates.length≤100000
def Yfy (t:TxV) (key:ByteArray) (change:Bool):Bool:=(Yb3 t.writes key).isSome || (change && t.read.any (fun k=>decide (k=key)))
def Ye4 (t:TxV) (key:ByteArray) (change:Bool) (k:Nat):Bool:=(Yb3 t.writes key).isSome || (change && (t.read.take k).any (fun x=>decide (x=key)))
theorem Ymk (b o:Nat) (p:TxV×TxS) (key:ByteArray) (change:Bool) (w:World) (hc2:w.cell? ⟨b,o+2,none⟩=some p.2.vr) (hc3:w.cell? ⟨b,o+3,none⟩=some p.2.vw) (ht:Yc9 w p):
 Calls prog 170 #[.pointer (some ⟨b,o,none⟩),.string key,.bool change] w fun e w'=>e=.returned (.bool (Yfy p.1 key change))∧Below w.heap.size w w':=by
 obtain ⟨t,vr,vw,vu⟩:=p
 obtain ⟨h1,h2,_,hl1,hl2,_⟩:=ht
 simp only at h1 h2 hc2 hc3 hl1 hl2 ⊢
 obtain ⟨pr,cr,rfl,hmax⟩:=Ya6 h1
 clear hmax
 have hbw:b<w.heap.size:=World.block_lt_of_cell? w _ hc2
 have hlt0:∀ g,(Value.slice pr t.read.length cr).ownBlock=some g→g<w.heap.size:=fun g hg=>(h1.lt g hg).2
 have HW:Hid (w.cell? ⟨b,o+3,none⟩=some vw∧w.ownsRow 0 206 3 vw t.writes.length (Yco t.writes)):=⟨hc3,h2⟩
 clear h2 hc3
 go_enter func170,ntmps170
 go_wp2_with (first | (go_at_call 135;go_must (
  refine (Ykz b o vw t.writes key w HW.out.1 HW.out.2 (by omega)).mono ?_;rintro e w1 ⟨rfl,hb1⟩;have d2:w1.cell? ⟨b,o+2,none⟩=some (.slice pr t.read.length cr):=(hb1.cell hbw).trans hc2;have r1:=Ybe h1 hb1 hlt0;clear HW)))
 obtain ⟨W,hW⟩:∃ W,W=w1.alloc (.cells #[.bool ((Yb3 t.writes key).getD (false,ByteArray.empty)).1,.string ((Yb3 t.writes key).getD (false,ByteArray.empty)).2] 38):=⟨_,rfl⟩
 rw [←hW]
 have hBW:Below w.heap.size w W:=by rw [hW];exact (hb1.alloc hb1.size _)
 have d3:W.cell? ⟨b,o+2,none⟩=some (.slice pr t.read.length cr):=(hBW.cell hbw).trans hc2
 have r3:W.ownsRow 0 9 1 (.slice pr t.read.length cr) t.read.length (t.read.map Value.string):=by rw [hW];exact r1.alloc _
 have HB:=Yh hBW
 clear hW hBW d2 r1 hb1
 have h0:(Yb3 t.writes key).isSome=Ye4 t key change 0:=by simp [Ye4]
 rw [h0]
 clear h0
 go_loopw [8,9] (fun u i wr=>∃ k:Nat,k≤t.read.length∧i=.int .i64 k∧u=.bool (Ye4 t key change k)∧wr=W∧(change=false→k=0)) (fun _ i _=>t.read.length - (intOf i).toNat)
 case atStart=>exact ⟨0,by omega,rfl,rfl,rfl,fun _=>rfl⟩
 case round=>
  obtain ⟨k,hk,rfl,rfl,rfl,hch⟩:=hrel;by_cases hlt:k<t.read.length
  ·have hlt':(k:Int)<(t.read.length:Int):=by omega
   cases change with
   | false=>
    have hf:Yfy t key false=Ye4 t key false k:=by simp [Yfy,Ye4]
    have HF:=Yh hf;clear hf;go_wp2;go_ret;exact ⟨by rw [HF.out];rfl,HB.out⟩
   | true=>
    obtain ⟨g,cap',he⟩:=Ybn r3 (by omega);simp only [Value.slice.injEq] at he;obtain ⟨rfl,-,rfl⟩:=he;have c0:wr.cell? ⟨g,k,none⟩=some (.string t.read[k]):=Yal r3 (by rw [List.getElem?_map,List.getElem?_eq_getElem hlt];rfl);have hs:Ye4 t key true (k+1)=(Ye4 t key true k || decide (t.read[k]=key)):=by
     simp only [Ye4,Bool.true_and];rw [List.take_succ_eq_append_getElem hlt,List.any_append];simp [Bool.or_assoc]
    have HS:=Yh hs;clear hs hch;generalize t.read[k]=kk at c0 HS;by_cases hkk:kk=key
    ·subst hkk
     cases hra:Ye4 t kk true k <;>
     ·rw [hra] at HS
      go_wp2;exact ⟨⟨k+1,by omega,by simp,by rw [HS.out];simp,trivial,by simp⟩,by simp [intOf];omega⟩
    ·have hke:=Yg6 hkk
     cases hra:Ye4 t key true k <;>
     ·rw [hra] at HS
      go_wp2;exact ⟨⟨k+1,by omega,by simp,by rw [HS.out];simp [hkk],trivial,by simp⟩,by simp [intOf];omega⟩
  ·have hlt':¬(k:Int)<(t.read.length:Int):=by omega
   have hf:Yfy t key change=Ye4 t key change k:=by
    have:k=t.read.length:=by omega
    subst this;simp [Yfy,Ye4]
   have HF:=Yh hf;clear hf;go_wp2;go_ret;exact ⟨by rw [HF.out];rfl,HB.out⟩
structure Ya4 where
 (vp vo vt vl:Value)
structure Yaz where
 (mode:Int)
 (dead doubt:Bool)
 (given actions:Int)
def Yc6 (n:Yaz) (s:Ya4):Array Value:=#[.int .i64 n.mode,.bool n.dead,.bool n.doubt,s.vp,s.vo,s.vt,.int .i64 n.given,.int .i64 n.actions,s.vl]
def Ya5:List (TxV×TxS)→Int→Option Nat
 | [],_=>none
 | p :: r,t=>if p.1.id=t then some 0 else (Ya5 r t).map (· + 1)
def Ye5:Option Nat→Int
 | none=>-1
 | some i=>i
theorem Ypk:∀ (l:List (TxV×TxS)) (t:Int) (k:Nat),k≤l.length→(∀ j (h:j<l.length),j<k→l[j].1.id≠t)→Ya5 l t=(Ya5 (l.drop k) t).map (· + k)
 | l,t,0,_,_=>by cases h:Ya5 l t <;> simp [h]
 | [],t,k+1,h,_=>by simp at h
 | p :: r,t,k+1,h,hn=>by
  have h0:p.1.id≠t:=hn 0 (by simp) (by omega);rw [Ya5,if_neg h0,Ypk r t k (by simpa using h) (fun j hj hlt=>hn (j+1) (Nat.succ_lt_succ hj) (by omega))];rw [List.drop_succ_cons]
  cases Ya5 (r.drop k) t <;> simp
  omega
theorem Yer (mb:Nat) (n:Yaz) (s:Ya4) (l:List (TxV×TxS)) (t:Int) (w:World) (hm:w.heap[mb]? = some (.cells (Yc6 n s) 119 (0,0))) (hown:w.ownsRow 0 200 5 s.vt l.length (Ya1 l)) (hlen:l.length≤1000):
 Calls prog 133 #[.pointer (some ⟨mb,0,none⟩),.int .i64 t] w fun e w'=>e=.returned (.int .i64 (Ye5 (Ya5 l t)))∧w=w':=by
 obtain ⟨vp,vo,vt,vl⟩:=s
 simp only at hown
 obtain ⟨p,cap,rfl,hmax⟩:=Ya6 hown
 clear hmax
 have cm:w.cell? ⟨mb,5,none⟩=some (.slice p l.length cap):=Yaa hm rfl
 clear hm
 go_enter func133,ntmps133
 go_wp2
 go_loopw [5] (fun i wr=>∃ k:Nat,k≤l.length∧i=.int .i64 k∧wr=w∧(∀ j (h:j<l.length),j<k→l[j].1.id≠t)) (fun i _=>l.length - (intOf i).toNat)
 case atStart=>exact ⟨0,by omega,rfl,rfl,fun j h hj=>by omega⟩
 case round=>
  obtain ⟨k,hk,rfl,rfl,hn⟩:=hrel;have HF:Hid (Ya5 l t=(Ya5 (l.drop k) t).map (· + k)):=Ypk l t k hk hn;have HN:=Yh hn;clear hn;by_cases hlt:k<l.length
  ·have hlt':(k:Int)<(l.length:Int):=by omega
   obtain ⟨g,cap',he⟩:=Ybn hown (by omega);simp only [Value.slice.injEq] at he;obtain ⟨rfl,-,rfl⟩:=he;have c0:wr.cell? ⟨g,k*5,none⟩=some (.int .i64 l[k].1.id):=Yal hown (Yb4 l k l[k] (List.getElem?_eq_getElem hlt) 0 _ rfl);by_cases hid:l[k].1.id=t
   ·have hr:Ya5 l t=some k:=by
     rw [HF.out,List.drop_eq_getElem_cons hlt,Ya5,if_pos hid];simp
    have HR:=Yh hr;clear hr HF HN;rw [hid] at c0;go_wp2;go_ret;exact ⟨by rw [HR.out];rfl,rfl⟩
   ·have hid':(l[k].1.id == t)=false:=by simpa using hid
    have HN1:Hid (∀ j (h:j<l.length),j<k+1→l[j].1.id≠t):=fun j h hj=>by
     by_cases hjk:j=k
     ·subst hjk;exact hid
     ·exact HN.out j h (by omega)
    generalize l[k].1.id=q at c0 hid hid';go_wp2;exact ⟨⟨k+1,by omega,by simp,trivial,HN1.out⟩,by simp [intOf];omega⟩
  ·have hlt':¬(k:Int)<(l.length:Int):=by omega
   have hr:Ya5 l t=none:=by rw [HF.out,List.drop_eq_nil_of_le (by omega)];rfl
   have HR:=Yh hr;clear hr;go_wp2;go_ret;exact ⟨by rw [HR.out];rfl,rfl⟩
theorem Yc9.below {p:TxV×TxS} (h:Yc9 w p) (hb:Below B w w') (hB:w.heap.size≤B):Yc9 w' p:=
 ⟨Ybe h.1 hb (fun g hg=>by have:=(h.1.lt g hg).2;omega),Ybe h.2.1 hb (fun g hg=>by have:=(h.2.1.lt g hg).2;omega),Ybe h.2.2.1 hb (fun g hg=>by have:=(h.2.2.1.lt g hg).2;omega),h.2.2.2⟩
def Ycp (l:List (TxV×TxS)) (t:Int) (key:ByteArray) (change:Bool):Bool:=l.any fun p=>Yfy p.1 key change && !(p.1.id == t)
theorem Yhy (mb:Nat) (n:Yaz) (s:Ya4) (l:List (TxV×TxS)) (t:Int) (key:ByteArray) (change:Bool) (w:World) (hm:w.heap[mb]? = some (.cells (Yc6 n s) 119 (0,0))) (hown:w.ownsRow 0 200 5 s.vt l.length (Ya1 l)) (ht:∀ p∈l,Yc9 w p) (hlen:l.length≤1000):
 Calls prog 130 #[.pointer (some ⟨mb,0,none⟩),.int .i64 t,.string key,.bool change] w fun e w'=>e=.returned (.bool (Ycp l t key change))∧Below w.heap.size w w':=by
 obtain ⟨vp,vo,vt,vl⟩:=s
 simp only at hown
 obtain ⟨p,cap,rfl,hmax⟩:=Ya6 hown
 clear hmax
 have cm:w.cell? ⟨mb,5,none⟩=some (.slice p l.length cap):=Yaa hm rfl
 have hmw:mb<w.heap.size:=Yaj hm
 have hlt0:∀ g,(Value.slice p l.length cap).ownBlock=some g→g<w.heap.size:=fun g hg=>(hown.lt g hg).2
 have HT:=Yh ht
 clear hm ht
 go_enter func130,ntmps130
 go_wp2
 go_loopw [9] (fun i wr=>∃ k:Nat,k≤l.length∧i=.int .i64 k∧Below w.heap.size w wr∧Ycp l t key change=Ycp (l.drop k) t key change) (fun i _=>l.length - (intOf i).toNat)
 case atStart=>exact ⟨0,by omega,rfl,Below.refl _ _,by simp⟩
 case round=>
  obtain ⟨k,hk,rfl,hbr,hu⟩:=hrel;have HB:=Yh hbr;have HU:=Yh hu;have cr:wr.cell? ⟨mb,5,none⟩=some (.slice p l.length cap):=(hbr.cell hmw).trans cm;have hwz:=hbr.size;clear hu;by_cases hlt:k<l.length
  ·have hlt':(k:Int)<(l.length:Int):=by omega
   have hownr:=Ybe hown hbr hlt0;obtain ⟨g,cap',he⟩:=Ybn hownr (by omega);simp only [Value.slice.injEq] at he;obtain ⟨rfl,-,rfl⟩:=he;have hgw:g<w.heap.size:=hlt0 g rfl;have c2:=Yal hownr (Yb4 l k l[k] (List.getElem?_eq_getElem hlt) 2 _ rfl);have c3:=Yal hownr (Yb4 l k l[k] (List.getElem?_eq_getElem hlt) 3 _ rfl);have HC:Hid (wr.cell? ⟨g,k*5+2,none⟩=some l[k].2.vr∧wr.cell? ⟨g,k*5+3,none⟩=some l[k].2.vw∧Yc9 wr l[k]):=⟨c2,c3,(HT.out l[k] (List.getElem_mem hlt)).below hbr (Nat.le_refl _)⟩;have c0:wr.cell? ⟨g,k*5,none⟩=some (.int .i64 l[k].1.id):=Yal hownr (Yb4 l k l[k] (List.getElem?_eq_getElem hlt) 0 _ rfl);have HS:Hid (Ycp (l.drop k) t key change=(Yfy l[k].1 key change && !(l[k].1.id == t) || Ycp (l.drop (k+1)) t key change)):=by
    show _=_;rw [List.drop_eq_getElem_cons hlt,Ycp,List.any_cons];rfl
   clear c2 c3 hownr hbr;generalize l[k]=q at c0 HC HS
   cases hh:Yfy q.1 key change with
   | false=>
    rw [hh] at HS;go_wp2_with (first | (go_at_call 170;go_must (
     refine (Ymk g (k*5) q key change wr HC.out.1 HC.out.2.1 HC.out.2.2).mono ?_;rw [hh];rintro e w2 ⟨rfl,hb2⟩)))
    exact ⟨⟨k+1,by omega,by simp,HB.out.trans (hb2.mono (by omega)),by rw [HU.out,HS.out];simp⟩,by simp [intOf];omega⟩
   | true=>
    rw [hh] at HS;by_cases hid:q.1.id=t
    ·have hq:(q.1.id == t)=true:=by simpa using hid
     have hq2:(q.1.id != t)=false:=by simpa using hid
     have HS2:Hid (Ycp (l.drop k) t key change=Ycp (l.drop (k+1)) t key change):=by show _=_;rw [HS.out,hq];simp
     generalize q.1.id=qi at c0 hq hq2 hid;go_wp2_with (first | (go_at_call 170;go_must (
      refine (Ymk g (k*5) q key change wr HC.out.1 HC.out.2.1 HC.out.2.2).mono ?_;rw [hh];rintro e w2 ⟨rfl,hb2⟩;have cr2:w2.cell? ⟨mb,5,none⟩=some (.slice (some ⟨g,0,none⟩) l.length cap):=(hb2.cell (show mb<_ by omega)).trans cr;have c02:w2.cell? ⟨g,k*5,none⟩=some (.int .i64 qi):=(hb2.cell (show g<_ by omega)).trans c0)))
     exact ⟨⟨k+1,by omega,by simp,HB.out.trans (hb2.mono (by omega)),by rw [HU.out,HS2.out]⟩,by simp [intOf];omega⟩
    ·have hq:(q.1.id == t)=false:=by simpa using hid
     have hq2:(q.1.id != t)=true:=by simpa using hid
     have HS2:Hid (Ycp l t key change=true):=by show _=_;rw [HU.out,HS.out,hq];simp
     generalize q.1.id=qi at c0 hq hq2 hid;go_wp2_with (first | (go_at_call 170;go_must (
      refine (Ymk g (k*5) q key change wr HC.out.1 HC.out.2.1 HC.out.2.2).mono ?_;rw [hh];rintro e w2 ⟨rfl,hb2⟩;have cr2:w2.cell? ⟨mb,5,none⟩=some (.slice (some ⟨g,0,none⟩) l.length cap):=(hb2.cell (show mb<_ by omega)).trans cr;have c02:w2.cell? ⟨g,k*5,none⟩=some (.int .i64 qi):=(hb2.cell (show g<_ by omega)).trans c0)))
     go_ret;exact ⟨by rw [HS2.out];rfl,HB.out.trans (hb2.mono (by omega))⟩
  ·have hlt':¬(k:Int)<(l.length:Int):=by omega
   have HR:Hid (Ycp l t key change=false):=by show _=_;rw [HU.out,List.drop_eq_nil_of_le (by omega)];rfl
   clear hbr;go_wp2;go_ret;exact ⟨by rw [HR.out];rfl,HB.out⟩
def Ye6 (s:ByteArray):Nat→Nat
 | 0=>0
 | n+1=>Ye6 s n+(s.data[n]?.getD 0).toNat
theorem Yml (s:ByteArray):∀ n,Ye6 s n≤255*n
 | 0=>Nat.le_refl _
 | n+1=>by
  have:=Yml s n;have h:(s.data[n]?.getD 0).toNat<256:=UInt8.toNat_lt _;simp only [Ye6];omega
def Yae (s:ByteArray):Nat:=Ye6 s s.size % 8
theorem Yk1 (key:ByteArray) (w:World) (hk:key.size≤1000000):
 Calls prog 112 #[.string key] w fun e w'=>e=.returned (.int .i64 (Yae key))∧w=w':=by
 go_enter func112,ntmps112
 go_wp2
 have HK:=Yh hk
 go_loopw [3,7] (fun u i wr=>∃ k:Nat,k≤key.size∧i=.int .i64 k∧u=.int .i64 (Ye6 key k)∧wr=w) (fun _ i _=>key.size - (intOf i).toNat)
 case atStart=>exact ⟨0,by omega,rfl,rfl,rfl⟩
 case round=>
  obtain ⟨k,hk',rfl,rfl,rfl⟩:=hrel;have hle:=Yml key k;by_cases hlt:k<key.size
  ·have hlt':(k:Int)<(key.size:Int):=by omega
   have hs:Ye6 key (k+1)=Ye6 key k+(key.data[k]?.getD 0).toNat:=rfl;have hb:(key.data[k]?.getD 0).toNat<256:=UInt8.toNat_lt _;have HS:=Yh hs;clear hs;have HE:Hid (key[k].toNat=(key.data[k]?.getD 0).toNat):=by
    show _=_;have h2:k<key.data.size:=hlt;rw [Array.getElem?_eq_getElem h2];rfl
   go_wp2;refine ⟨⟨k+1,by omega,by simp,?_,trivial⟩,by simp [intOf];omega⟩;have h1:=HS.out;have h2:=HE.out;have h3:=HK.out;rw [h1,h2];clear HS HE h1 h2;generalize (key.data[k]?.getD 0).toNat=b at hb;generalize Ye6 key k=t at hle;have e1:wrap64 (b:Int)=b:=by unfold wrap64;omega
   rw [e1];have e2:wrap64 ((t:Int)+b)=((t+b:Nat):Int):=by unfold wrap64;omega
   rw [e2]
  ·have hlt':¬(k:Int)<(key.size:Int):=by omega
   have hkk:k=key.size:=by omega
   subst hkk;go_wp2;go_ret;exact ⟨by rw [Yae];rfl,rfl⟩
theorem Yg8 (key:ByteArray) (w:World) (hk:key.size≤1000000):
 Calls prog 214 #[.string key] w fun e w'=>e=.returned (.int .i64 (Yae key))∧w=w':=by
 go_enter func214,ntmps214
 go_wp2
 have HK:=Yh hk
 go_loopw [3,4] (fun u i wr=>∃ k:Nat,k≤key.size∧i=.int .i64 k∧u=.int .i64 (Ye6 key k)∧wr=w) (fun _ i _=>key.size - (intOf i).toNat)
 case atStart=>exact ⟨0,by omega,rfl,rfl,rfl⟩
 case round=>
  obtain ⟨k,hk',rfl,rfl,rfl⟩:=hrel;have hle:=Yml key k;by_cases hlt:k<key.size
  ·have hlt':(k:Int)<(key.size:Int):=by omega
   have hs:Ye6 key (k+1)=Ye6 key k+(key.data[k]?.getD 0).toNat:=rfl;have hb:(key.data[k]?.getD 0).toNat<256:=UInt8.toNat_lt _;have HS:=Yh hs;clear hs;have HE:Hid (key[k].toNat=(key.data[k]?.getD 0).toNat):=by
    show _=_;have h2:k<key.data.size:=hlt;rw [Array.getElem?_eq_getElem h2];rfl
   go_wp2;refine ⟨⟨k+1,by omega,by simp,?_,trivial⟩,by simp [intOf];omega⟩;have h1:=HS.out;have h2:=HE.out;have h3:=HK.out;rw [h1,h2];clear HS HE h1 h2;generalize (key.data[k]?.getD 0).toNat=b at hb;generalize Ye6 key k=t at hle;have e1:wrap64 (b:Int)=b:=by unfold wrap64;omega
   rw [e1];have e2:wrap64 ((t:Int)+b)=((t+b:Nat):Int):=by unfold wrap64;omega
   rw [e2]
  ·have hlt':¬(k:Int)<(key.size:Int):=by omega
   have hkk:k=key.size:=by omega
   subst hkk;go_wp2;go_ret;exact ⟨by rw [Yae];rfl,rfl⟩
def Yca (dead:Bool) (ix:Option Nat) (key:ByteArray):Int×Int:=
 if dead then (0,3) else match ix with
  | none=>(0,5)
  | some i=>if key.size<1∨8<key.size then (0,6) else (i,0)
theorem Yfz (mb:Nat) (n:Yaz) (s:Ya4) (l:List (TxV×TxS)) (t:Int) (key:ByteArray) (w:World) (hm:w.heap[mb]? = some (.cells (Yc6 n s) 119 (0,0))) (hown:w.ownsRow 0 200 5 s.vt l.length (Ya1 l)) (hlen:l.length≤1000):
 Calls prog 129 #[.pointer (some ⟨mb,0,none⟩),.int .i64 t,.string key] w fun e w'=>e=.returned (.tuple #[.int .i64 (Yca n.dead (Ya5 l t) key).1,.int .i64 (Yca n.dead (Ya5 l t) key).2])∧w=w':=by
 have c1:w.cell? ⟨mb,1,none⟩=some (.bool n.dead):=Yaa hm rfl
 have HM:Hid (w.heap[mb]? = some (.cells (Yc6 n s) 119 (0,0))∧w.ownsRow 0 200 5 s.vt l.length (Ya1 l)):=⟨hm,hown⟩
 clear hm hown
 cases hd:n.dead with
 | true=>
  rw [hd] at c1;go_enter func129,ntmps129;go_wp2_with (first | (go_at_call 133;refine (Yer mb n s l t w HM.out.1 HM.out.2 hlen).mono ?_;rintro e w' ⟨rfl,rfl⟩))
  go_ret2;exact ⟨rfl,rfl⟩
 | false=>
  rw [hd] at c1
  cases hf:Ya5 l t with
  | none=>
   go_enter func129,ntmps129;go_wp2_with (first | (go_at_call 133;refine (Yer mb n s l t w HM.out.1 HM.out.2 hlen).mono ?_;rw [hf,Ye5];rintro e w' ⟨rfl,rfl⟩))
   go_ret2;exact ⟨rfl,rfl⟩
  | some i=>
   have hi:¬((i:Int)<0):=by omega
   by_cases hk1:key.size<1
   ·have hk1':(key.size:Int)<1:=by omega
    have HA:Hid (Yca false (some i) key=(0,6)):=by show _=_;simp [Yca,hk1]
    go_enter func129,ntmps129;go_wp2_with (first | (go_at_call 133;refine (Yer mb n s l t w HM.out.1 HM.out.2 hlen).mono ?_;rw [hf,Ye5];rintro e w' ⟨rfl,rfl⟩))
    go_ret2;exact ⟨by rw [HA.out];rfl,rfl⟩
   ·have hk1':¬(key.size:Int)<1:=by omega
    by_cases hk2:8<key.size
    ·have hk2':(8:Int)<(key.size:Int):=by omega
     have HA:Hid (Yca false (some i) key=(0,6)):=by show _=_;simp [Yca,hk2]
     go_enter func129,ntmps129;go_wp2_with (first | (go_at_call 133;refine (Yer mb n s l t w HM.out.1 HM.out.2 hlen).mono ?_;rw [hf,Ye5];rintro e w' ⟨rfl,rfl⟩))
     go_ret2;exact ⟨by rw [HA.out];rfl,rfl⟩
    ·have hk2':¬(8:Int)<(key.size:Int):=by omega
     have HA:Hid (Yca false (some i) key=((i:Int),0)):=by show _=_;simp only [Yca];rw [if_neg (by simp),if_neg (by omega)]
     go_enter func129,ntmps129;go_wp2_with (first | (go_at_call 133;refine (Yer mb n s l t w HM.out.1 HM.out.2 hlen).mono ?_;rw [hf,Ye5];rintro e w' ⟨rfl,rfl⟩))
     go_ret2;exact ⟨by rw [HA.out];rfl,rfl⟩
def Ycb (t:TxV) (pairs:Yaf) (key:ByteArray):Bool×ByteArray:=(Yb3 t.writes key).getD (Yag pairs key)
theorem Ymm (mb:Nat) (n:Yaz) (s:Ya4) (l:List (TxV×TxS)) (pairs:Yaf) (i:Nat) (p:TxV×TxS) (key:ByteArray) (w:World) (hm:w.heap[mb]? = some (.cells (Yc6 n s) 119 (0,0))) (hown:w.ownsRow 0 200 5 s.vt l.length (Ya1 l))
 (hp:w.ownsRow 0 43 2 s.vp pairs.length (Yad pairs)) (ht:Yc9 w p) (hi:l[i]? = some p) (hlen:l.length≤1000):
 Calls prog 131 #[.pointer (some ⟨mb,0,none⟩),.int .i64 i,.string key] w fun e w'=>e=.returned (.agg #[.bool (Ycb p.1 pairs key).1,.string (Ycb p.1 pairs key).2])∧Below w.heap.size w w':=by
 have hil:i<l.length:=(List.getElem?_eq_some_iff.1 hi).1
 have hil':(i:Int)<(l.length:Int):=by omega
 obtain ⟨vp,vo,vt,vl⟩:=s
 simp only at hown hp
 obtain ⟨g,cap,rfl⟩:=Ybn hown (by omega)
 have cm5:w.cell? ⟨mb,5,none⟩=some (.slice (some ⟨g,0,none⟩) l.length cap):=Yaa hm rfl
 have cm3:w.cell? ⟨mb,3,none⟩=some vp:=Yaa hm rfl
 have hmw:mb<w.heap.size:=Yaj hm
 have c3:=Yal hown (Yb4 l i p hi 3 _ rfl)
 have HX:Hid (∀ w1:World,Below w.heap.size w w1→w1.cell? ⟨mb,3,none⟩=some vp∧w1.ownsRow 0 43 2 vp pairs.length (Yad pairs)):=fun w1 hb=>
  ⟨(hb.cell hmw).trans cm3,Ybe hp hb (fun g hg=>(hp.lt g hg).2)⟩
 have HW:Hid (∀ w1:World,Below w.heap.size w w1→w1.cell? ⟨g,i*5+3,none⟩=some p.2.vw∧w1.ownsRow 0 206 3 p.2.vw p.1.writes.length (Yco p.1.writes)):=fun w1 hb=>
  ⟨(hb.cell (show g<_ from (hown.lt g rfl).2)).trans c3,Ybe ht.2.1 hb (fun g hg=>(ht.2.1.lt g hg).2)⟩
 have hwl:=ht.2.2.2.2.1
 clear hm hown hp ht c3
 have HB0:Hid (Below w.heap.size w (w.alloc (.cells #[.bool false,.string ByteArray.empty] 38))):=(Below.refl _ _).alloc (Nat.le_refl _) _
 have HN0:Hid ((w.alloc (.cells #[.bool false,.string ByteArray.empty] 38)).heap[w.heap.size]? = some (.cells #[.bool false,.string ByteArray.empty] 38 (0,0))):=heap_alloc_new w _
 cases hwr:Yb3 p.1.writes key with
 | some x=>
  obtain ⟨b0,v0⟩:=x;have HV:Hid (Ycb p.1 pairs key=(b0,v0)):=by show _=_;simp [Ycb,hwr]
  go_enter func131,ntmps131;go_wp2_with (first | (go_at_call 135;go_must (
   refine (Ykz g (i*5) p.2.vw p.1.writes key _ (HW.out _ HB0.out).1 (HW.out _ HB0.out).2 (by omega)).mono ?_;rw [hwr];rintro e w2 ⟨rfl,hb2⟩;have HB2:Hid (Below w.heap.size w w2):=HB0.out.trans (hb2.mono (by simp));have HN2:Hid (w2.heap[w.heap.size]? = some (.cells #[.bool false,.string ByteArray.empty] 38 (0,0))):=(hb2.block _ (by simp)).trans HN0.out;have hz2:w.heap.size<w2.heap.size:=Yaj HN2.out;have n0:w2.cell? ⟨w.heap.size,0,none⟩=some (.bool false):=Yaa HN2.out rfl;have n1:w2.cell? ⟨w.heap.size,1,none⟩=some (.string ByteArray.empty):=Yaa HN2.out rfl;have f0:=Yah 0 HN2.out;have f1:=Yah 1 HN2.out;clear hb2 HW HX cm5 cm3)))
  have HF:Hid ((((w2.setCell ⟨w.heap.size,0,none⟩ (.bool b0)).setCell ⟨w.heap.size,1,none⟩ (.string v0)).alloc (.cells #[.bool b0,.string v0] 38)).heap[w.heap.size]? = some (.cells #[.bool b0,.string v0] 38 (0,0))):=by
   refine (Below.heap_alloc _ _ _ (by simpa using hz2)).trans ?_;exact (Yak _ _ 1 _ _ _ (Yak _ _ 0 _ _ _ HN2.out)).trans rfl
  refine bodyPost_ret (v:=.agg #[.bool b0,.string v0]) ?_ rfl ⟨by rw [HV.out],?_⟩
  ·exact results_cell_row Tryz.results131 _ _ w.heap.size 38 #[.bool b0,.string v0] (0,0) _ rfl HF.out underlying38 rfl (by kernel_rfl)
  ·exact (((HB2.out.setCell (p:=⟨w.heap.size,0,none⟩) (Nat.le_refl _) _).setCell (p:=⟨w.heap.size,1,none⟩) (Nat.le_refl _) _)).alloc (by simp;omega) _
 | none=>
  have HV:Hid (Ycb p.1 pairs key=Yag pairs key):=by show _=_;simp [Ycb,hwr]
  go_enter func131,ntmps131;go_wp2_with (first | (go_at_call 135;go_must (
   refine (Ykz g (i*5) p.2.vw p.1.writes key _ (HW.out _ HB0.out).1 (HW.out _ HB0.out).2 (by omega)).mono ?_;rw [hwr];rintro e w2 ⟨rfl,hb2⟩;have HB2:Hid (Below w.heap.size w w2):=HB0.out.trans (hb2.mono (by simp));have HN2:Hid (w2.heap[w.heap.size]? = some (.cells #[.bool false,.string ByteArray.empty] 38 (0,0))):=(hb2.block _ (by simp)).trans HN0.out;have hz2:w.heap.size<w2.heap.size:=Yaj HN2.out;have cm3':=(HX.out w2 HB2.out).1;have hmw2:mb<w2.heap.size:=by omega
   clear hb2 HW cm5 cm3)))
  obtain ⟨W2,hW2⟩:∃ W2,W2=w2.alloc (.cells #[.bool false,.string ByteArray.empty] 38):=⟨_,rfl⟩;rw [←hW2];have hb2':Below w.heap.size w W2:=by rw [hW2];exact HB2.out.alloc (by omega) _
  have hn2:W2.heap[w2.heap.size]? = some (.cells #[.bool false,.string ByteArray.empty] 38 (0,0)):=by rw [hW2];exact heap_alloc_new w2 _
  have hn1:W2.heap[w.heap.size]? = some (.cells #[.bool false,.string ByteArray.empty] 38 (0,0)):=by rw [hW2];exact (Below.heap_alloc _ _ _ hz2).trans HN2.out
  have hzz:W2.heap.size=w2.heap.size+1:=by rw [hW2];simp
  clear hW2;refine (Ykx 0 vp pairs key W2 (HX.out W2 hb2').2).mono ?_;rintro e w3 ⟨rfl,hb3⟩;have HB3:Hid (Below w.heap.size w w3):=hb2'.trans (hb3.mono hb2'.size);have hn2':=(hb3.block _ (Yaj hn2)).trans hn2;have hn1':=(hb3.block _ (Yaj hn1)).trans hn1;have m0:w3.cell? ⟨w2.heap.size,0,none⟩=some (.bool false):=Yaa hn2' rfl;have m1:w3.cell? ⟨w2.heap.size,1,none⟩=some (.string ByteArray.empty):=Yaa hn2' rfl;have g0:=Yah 0 hn2';have g1:=Yah 1 hn2';have n0:w3.cell? ⟨w.heap.size,0,none⟩=some (.bool false):=Yaa hn1' rfl;have n1:w3.cell? ⟨w.heap.size,1,none⟩=some (.string ByteArray.empty):=Yaa hn1' rfl;have f0:=Yah 0 hn1';have f1:=Yah 1 hn1';have HN3:Hid (w3.heap[w.heap.size]? = some (.cells #[.bool false,.string ByteArray.empty] 38 (0,0))∧w3.heap[w2.heap.size]? = some (.cells #[.bool false,.string ByteArray.empty] 38 (0,0))):=⟨hn1',hn2'⟩;have hnn:w.heap.size≠w2.heap.size:=by omega
  have hnn':w2.heap.size≠w.heap.size:=by omega
  clear hb3 hb2' hn2 hn1 hn1' hn2' HX cm3';generalize Yag pairs key=ud at HV;obtain ⟨u0,u1⟩:=ud;go_wp2;refine bodyPost_ret (v:=.agg #[.bool u0,.string u1]) ?_ rfl ⟨by rw [HV.out],?_⟩
  ·refine results_cell_row Tryz.results131 _ _ w.heap.size 38 #[.bool u0,.string u1] (0,0) _ rfl ?_ underlying38 rfl (by kernel_rfl)
   have k1:=(Below.heap_setCell (w3.setCell ⟨w2.heap.size,0,none⟩ (.bool u0)) ⟨w2.heap.size,1,none⟩ (.string u1) w.heap.size hnn).trans ((Below.heap_setCell w3 ⟨w2.heap.size,0,none⟩ (.bool u0) w.heap.size hnn).trans HN3.out.1);exact (Yak _ _ 1 _ _ _ (Yak _ _ 0 _ _ _ k1)).trans rfl
  ·have hle:w.heap.size≤w2.heap.size:=by omega
   exact (((HB3.out.setCell (p:=⟨w2.heap.size,0,none⟩) hle _).setCell (p:=⟨w2.heap.size,1,none⟩) hle _).setCell (p:=⟨w.heap.size,0,none⟩) (Nat.le_refl _) _).setCell (p:=⟨w.heap.size,1,none⟩) (Nat.le_refl _) _
def Yf0:Bool→Nat
 | true=>0
 | false=>1
theorem Yu0 (key val:ByteArray) (st:Yaf×Bool) (p:ByteArray×ByteArray):(Yby key val st p).1.length+Yf0 (Yby key val st p).2≤st.1.length+Yf0 st.2+1:=by
 obtain ⟨o,d⟩:=st;unfold Yby
 cases d <;> simp only [Bool.true_eq_false,false_and,if_false,true_and]
 ·split <;> split <;> simp [Yf0]
 ·split <;> simp [Yf0]
theorem Ypl (key val:ByteArray):∀ (m:Yaf) (st:Yaf×Bool),(m.foldl (Yby key val) st).1.length+Yf0 (m.foldl (Yby key val) st).2≤st.1.length+Yf0 st.2+m.length
 | [],st=>by simp
 | p :: r,st=>by
  have h1:=Ypl key val r (Yby key val st p);have h2:=Yu0 key val st p;simp only [List.foldl_cons,List.length_cons];omega
theorem Ymn (l:Yaf) (key val:ByteArray) (is:Bool):(Yaw l key is val).length≤l.length+1:=by
 have h:=Ypl key val l ([],!is);have hp:Yf0 (!is)≤1:=by cases is <;> simp [Yf0]
 have hw:Yaw l key is val=if (l.foldl (Yby key val) ([],!is)).2 then (l.foldl (Yby key val) ([],!is)).1 else (l.foldl (Yby key val) ([],!is)).1 ++ [(key,val)]:=rfl
 rw [hw]
 cases hd:(l.foldl (Yby key val) ([],!is)).2 <;> rw [hd] at h <;> simp [Yf0] at h ⊢ <;> simp [Yf0] at hp <;> omega
def Ydw (key:ByteArray) (l:Yaf) (k:ByteArray):Yaf:=if Yae k=Yae key then Yaw l k true ByteArray.empty else l
theorem Yu1 (key:ByteArray) (l:Yaf) (k:ByteArray):(Ydw key l k).length≤l.length+1:=by
 unfold Ydw;split
 ·exact Ymn _ _ _ _
 ·omega
def Ybj (key:ByteArray) (l:Yaf) (ks:List ByteArray):Yaf:=ks.foldl (Ydw key) l
theorem Ymo (key:ByteArray):∀ (ks:List ByteArray) (l:Yaf),(Ybj key l ks).length≤l.length+ks.length
 | [],l=>by simp [Ybj]
 | k :: r,l=>by
  have h1:=Ymo key r (Ydw key l k);have h2:=Yu1 key l k;simp only [Ybj,List.foldl_cons,List.length_cons] at *;omega
def Ye7 (pairs:Yaf) (l:List (TxV×TxS)):List ByteArray:=pairs.map (·.1) ++ l.flatMap (fun p=>p.1.writes.map (·.1))
def Yes (pairs:Yaf) (l:List (TxV×TxS)) (key:ByteArray):Bool:=
 let m:=Ybj key [] (Ye7 pairs l)
 (Yag m key).1 || decide (m.length<4)
theorem Yk2 (mb:Nat) (n:Yaz) (s:Ya4) (l:List (TxV×TxS)) (pairs:Yaf) (key:ByteArray) (w:World) (hm:w.heap[mb]? = some (.cells (Yc6 n s) 119 (0,0))) (hown:w.ownsRow 0 200 5 s.vt l.length (Ya1 l))
 (hp:w.ownsRow 0 43 2 s.vp pairs.length (Yad pairs)) (ht:∀ p∈l,Yc9 w p) (hlen:l.length≤10) (hpl:pairs.length≤1000) (hwl:∀ p∈l,p.1.writes.length≤1000)
 (hk:key.size≤1000) (hkp:∀ p∈pairs,p.1.size≤1000) (hkw:∀ p∈l,∀ x∈p.1.writes,x.1.size≤1000):
 Calls prog 171 #[.pointer (some ⟨mb,0,none⟩),.string key] w fun e w'=>e=.returned (.bool (Yes pairs l key))∧Below w.heap.size w w':=by
 obtain ⟨vp,vo,vt,vl⟩:=s
 simp only at hown hp
 obtain ⟨ap,cp,rfl,_⟩:=Ya6 hp
 obtain ⟨at',ct,rfl,_⟩:=Ya6 hown
 have cm5:w.cell? ⟨mb,5,none⟩=some (.slice at' l.length ct):=Yaa hm rfl
 have cm3:w.cell? ⟨mb,3,none⟩=some (.slice ap pairs.length cp):=Yaa hm rfl
 have hmw:mb<w.heap.size:=Yaj hm
 have HP:=Yh hp
 have HO:=Yh hown
 have HT:Hid (∀ p∈l,Yc9 w p∧p.1.writes.length≤1000∧∀ x∈p.1.writes,x.1.size≤1000):=fun p hp=>⟨ht p hp,hwl p hp,hkw p hp⟩
 have HKP:=Yh hkp
 clear hm hown hp ht hwl hkw hkp
 go_enter func171,ntmps171
 go_wp2
 have hkz:key.size≤1000000:=by omega
 clear hk
 go_loopw [5,6] (fun u i wr=>∃ k:Nat,k≤pairs.length∧i=.int .i64 k∧wr.ownsRow w.heap.size 43 2 u (Ybj key [] ((pairs.take k).map (·.1))).length (Yad (Ybj key [] ((pairs.take k).map (·.1))))∧Below w.heap.size w wr) (fun _ i _=>pairs.length - (intOf i).toNat)
 case atStart=>exact ⟨0,by omega,rfl,World.ownsRow_nil _ _ _ _,Below.refl _ _⟩
 case round=>
  obtain ⟨k,hk,rfl,hrow,hbr⟩:=hrel;have HB:=Yh hbr;have HR:=Yh hrow;have hml:=Ymo key ((pairs.take k).map (·.1)) [];have cr3:wr.cell? ⟨mb,3,none⟩=some (.slice ap pairs.length cp):=(hbr.cell hmw).trans cm3;have hwz:=hbr.size;by_cases hlt:k<pairs.length
  ·have hlt':(k:Int)<(pairs.length:Int):=by omega
   have hpr:=Ybe HP.out hbr (fun g hg=>(HP.out.lt g hg).2);obtain ⟨g,cap',he⟩:=Ybn hpr (by omega);simp only [Value.slice.injEq] at he;obtain ⟨rfl,-,rfl⟩:=he;have hgw:g<w.heap.size:=(HP.out.lt g rfl).2;obtain ⟨d0,_⟩:=Ye2 pairs k pairs[k] (List.getElem?_eq_getElem hlt);have c0:=Yal hpr d0;have hk0:pairs[k].1.size≤1000000:=by have:=HKP.out pairs[k] (List.getElem_mem hlt);omega
   have HS:Hid (Ybj key [] ((pairs.take (k+1)).map (·.1))=Ydw key (Ybj key [] ((pairs.take k).map (·.1))) pairs[k].1):=by
    show _=_;rw [List.take_succ_eq_append_getElem hlt,List.map_append,Ybj,List.foldl_append];rfl
   have HML:Hid ((Ybj key [] ((pairs.take k).map (·.1))).length≤2000):=by
    show _≤_;have h1:((pairs.take k).map (·.1)).length≤1000:=by rw [List.length_map,List.length_take];omega
    rw [List.length_nil] at hml;omega
   clear d0 hpr hml hbr hrow;generalize Ybj key [] ((pairs.take k).map (·.1))=M at HR HS HML;generalize pairs[k].1=k0 at c0 hk0 HS;have tok1:True:=trivial;by_cases hb:Yae k0=Yae key
   ·have hbe:((Yae k0:Int) == (Yae key:Int))=true:=by simp [hb]
    have HS2:Hid (Ybj key [] ((pairs.take (k+1)).map (·.1))=Yaw M k0 true ByteArray.empty):=by show _=_;rw [HS.out,Ydw,if_pos hb]
    go_wp2_with (first
     | (go_at_call 214;have _t:=tok1;go_must (
      refine (Yg8 k0 wr hk0).mono ?_;rintro e w' ⟨rfl,rfl⟩;clear tok1))
     | (go_at_call 214;go_must (
      refine (Yg8 key wr hkz).mono ?_;rintro e w' ⟨rfl,rfl⟩))
     | (go_at_call 134;go_must (
      refine (Yky w.heap.size _ M k0 true ByteArray.empty wr HR.out (by have:=HML.out;omega)).mono ?_;rintro e w2 ⟨v2,rfl,ho2,hb2⟩;have HR2:Hid (w2.ownsRow w.heap.size 43 2 v2 (Yaw M k0 true ByteArray.empty).length (Yad (Yaw M k0 true ByteArray.empty))):=Yfg ho2 (by omega);have HB2:Hid (Below w.heap.size w w2):=HB.out.trans (hb2.mono (by omega));clear ho2 hb2)))
    exact ⟨⟨k+1,by omega,by simp,by rw [HS2.out];exact HR2.out,HB2.out⟩,by simp [intOf];omega⟩
   ·have hbe:((Yae k0:Int) == (Yae key:Int))=false:=by
     rw [beq_eq_false_iff_ne];intro h;exact hb (by exact_mod_cast h)
    have HS2:Hid (Ybj key [] ((pairs.take (k+1)).map (·.1))=M):=by show _=_;rw [HS.out,Ydw,if_neg hb]
    go_wp2_with (first
     | (go_at_call 214;have _t:=tok1;go_must (
      refine (Yg8 k0 wr hk0).mono ?_;rintro e w' ⟨rfl,rfl⟩;clear tok1))
     | (go_at_call 214;go_must (
      refine (Yg8 key wr hkz).mono ?_;rintro e w' ⟨rfl,rfl⟩)))
    exact ⟨⟨k+1,by omega,by simp,by rw [HS2.out];exact HR.out,HB.out⟩,by simp [intOf];omega⟩
  ·have hlt':¬(k:Int)<(pairs.length:Int):=by omega
   have hkk:pairs.take k=pairs:=List.take_of_length_le (by omega);rw [hkk] at HR;have h1:(pairs.map (·.1)).length≤1000:=by rw [List.length_map];omega
   rw [hkk,List.length_nil] at hml;have HML:Hid ((Ybj key [] (pairs.map (·.1))).length≤1000):=by show _≤_;omega
   clear hml hrow hbr h1 hkk;generalize hM0:Ybj key [] (pairs.map (·.1))=M0 at HR HML;have HM0:=Yh hM0;clear hM0;go_wp2;have HRK:Hid (Ybj key [] (Ye7 pairs l)=Ybj key M0 (l.flatMap (fun p=>p.1.writes.map (·.1)))):=by
    show _=_;rw [←HM0.out];simp only [Ye7,Ybj,List.foldl_append]
   clear cr3;go_loopw [5,8] (fun u i w3=>∃ j:Nat,j≤l.length∧i=.int .i64 j∧w3.ownsRow w.heap.size 43 2 u (Ybj key M0 ((l.take j).flatMap (fun p=>p.1.writes.map (·.1)))).length (Yad (Ybj key M0 ((l.take j).flatMap (fun p=>p.1.writes.map (·.1)))))∧Below w.heap.size w w3∧(Ybj key M0 ((l.take j).flatMap (fun p=>p.1.writes.map (·.1)))).length≤1000+1000*j) (fun _ i _=>l.length - (intOf i).toNat)
   case atStart=>exact ⟨0,by omega,rfl,HR.out,HB.out,HML.out⟩
   case round=>
    obtain ⟨j,hj,rfl,hrow,hbr3,hml3⟩:=hrel;have HB3:=Yh hbr3;have cr5:wr.cell? ⟨mb,5,none⟩=some (.slice at' l.length ct):=(hbr3.cell hmw).trans cm5;have hwz3:=hbr3.size;by_cases hlt3:j<l.length
    ·have hlt3':(j:Int)<(l.length:Int):=by omega
     have hor:=Ybe HO.out hbr3 (fun g hg=>(HO.out.lt g hg).2);obtain ⟨g,cap',he⟩:=Ybn hor (by omega);simp only [Value.slice.injEq] at he;obtain ⟨rfl,-,rfl⟩:=he;have hgw:g<w.heap.size:=(HO.out.lt g rfl).2;have c3:=Yal hor (Yb4 l j l[j] (List.getElem?_eq_getElem hlt3) 3 _ rfl);have HTX:=HT.out l[j] (List.getElem_mem hlt3);have HS:Hid (Ybj key M0 ((l.take (j+1)).flatMap (fun p=>p.1.writes.map (·.1)))=Ybj key (Ybj key M0 ((l.take j).flatMap (fun p=>p.1.writes.map (·.1)))) (l[j].1.writes.map (·.1))):=by
      show _=_;rw [List.take_succ_eq_append_getElem hlt3,List.flatMap_append,Ybj,List.foldl_append];simp [Ybj]
     have HR3:=Yh hrow;have HC3:Hid (wr.cell? ⟨g,j*5+3,none⟩=some l[j].2.vw∧w.ownsRow 0 206 3 l[j].2.vw l[j].1.writes.length (Yco l[j].1.writes)):=⟨c3,HTX.1.2.1⟩;have hwl:=HTX.2.1;have HKW:Hid (∀ x∈l[j].1.writes,x.1.size≤1000):=HTX.2.2;clear hrow hbr3 hor c3 HTX HR HB HML HM0;generalize Ybj key M0 ((l.take j).flatMap (fun p=>p.1.writes.map (·.1)))=M at HR3 HS hml3;generalize l[j].2.vw=vw at HC3;generalize l[j].1.writes=ws at HC3 HS hwl HKW;obtain ⟨aw,cw,rfl,_⟩:=Ya6 HC3.out.2;have c3:=HC3.out.1;have HW:Hid (w.ownsRow 0 206 3 (.slice aw ws.length cw) ws.length (Yco ws)):=HC3.out.2;clear HC3;go_wp2;go_loopw [5,10] (fun u i w4=>∃ q:Nat,q≤ws.length∧i=.int .i64 q∧w4.ownsRow w.heap.size 43 2 u (Ybj key M ((ws.take q).map (·.1))).length (Yad (Ybj key M ((ws.take q).map (·.1))))∧Below w.heap.size w w4) (fun _ i _=>ws.length - (intOf i).toNat)
     case atStart=>exact ⟨0,by omega,rfl,HR3.out,HB3.out⟩
     case round=>
      obtain ⟨q,hq,rfl,hrow,hbr4⟩:=hrel;have HB4:=Yh hbr4;have HR4:=Yh hrow;have hwz4:=hbr4.size;have hml:=Ymo key ((ws.take q).map (·.1)) M;by_cases hlt4:q<ws.length
      ·have hlt4':(q:Int)<(ws.length:Int):=by omega
       have hpr:=Ybe HW.out hbr4 (fun g hg=>(HW.out.lt g hg).2);obtain ⟨gq,cap',he⟩:=Ybn hpr (by omega);simp only [Value.slice.injEq] at he;obtain ⟨rfl,-,rfl⟩:=he;obtain ⟨d0,_,_⟩:=Yik ws q ws[q] (List.getElem?_eq_getElem hlt4);have c0:=Yal hpr d0;have hk0:ws[q].1.size≤1000000:=by have:=HKW.out ws[q] (List.getElem_mem hlt4);omega
       have HS4:Hid (Ybj key M ((ws.take (q+1)).map (·.1))=Ydw key (Ybj key M ((ws.take q).map (·.1))) ws[q].1):=by
        show _=_;rw [List.take_succ_eq_append_getElem hlt4,List.map_append,Ybj,List.foldl_append];rfl
       have HML4:Hid ((Ybj key M ((ws.take q).map (·.1))).length≤50000):=by
        show _≤_;have h1:((ws.take q).map (·.1)).length≤1000:=by rw [List.length_map,List.length_take];omega
        omega
       clear d0 hpr hml hbr4 hrow;generalize Ybj key M ((ws.take q).map (·.1))=M4 at HR4 HS4 HML4;generalize ws[q].1=k0 at c0 hk0 HS4;have tok1:True:=trivial;by_cases hb:Yae k0=Yae key
       ·have hbe:((Yae k0:Int) == (Yae key:Int))=true:=by simp [hb]
        have HS2:Hid (Ybj key M ((ws.take (q+1)).map (·.1))=Yaw M4 k0 true ByteArray.empty):=by show _=_;rw [HS4.out,Ydw,if_pos hb]
        go_wp2_with (first
         | (go_at_call 214;have _t:=tok1;go_must (
          refine (Yg8 k0 wr hk0).mono ?_;rintro e w' ⟨rfl,rfl⟩;clear tok1))
         | (go_at_call 214;go_must (
          refine (Yg8 key wr hkz).mono ?_;rintro e w' ⟨rfl,rfl⟩))
         | (go_at_call 134;go_must (
          refine (Yky w.heap.size _ M4 k0 true ByteArray.empty wr HR4.out (by have:=HML4.out;omega)).mono ?_;rintro e w2 ⟨v2,rfl,ho2,hb2⟩;have HR2:Hid (w2.ownsRow w.heap.size 43 2 v2 (Yaw M4 k0 true ByteArray.empty).length (Yad (Yaw M4 k0 true ByteArray.empty))):=Yfg ho2 (by omega);have HB2:Hid (Below w.heap.size w w2):=HB4.out.trans (hb2.mono (by omega));clear ho2 hb2)))
        exact ⟨⟨q+1,by omega,by simp,by rw [HS2.out];exact HR2.out,HB2.out⟩,by simp [intOf];omega⟩
       ·have hbe:((Yae k0:Int) == (Yae key:Int))=false:=by
         rw [beq_eq_false_iff_ne];intro h;exact hb (by exact_mod_cast h)
        have HS2:Hid (Ybj key M ((ws.take (q+1)).map (·.1))=M4):=by show _=_;rw [HS4.out,Ydw,if_neg hb]
        go_wp2_with (first
         | (go_at_call 214;have _t:=tok1;go_must (
          refine (Yg8 k0 wr hk0).mono ?_;rintro e w' ⟨rfl,rfl⟩;clear tok1))
         | (go_at_call 214;go_must (
          refine (Yg8 key wr hkz).mono ?_;rintro e w' ⟨rfl,rfl⟩)))
        exact ⟨⟨q+1,by omega,by simp,by rw [HS2.out];exact HR4.out,HB4.out⟩,by simp [intOf];omega⟩
      ·have hlt4':¬(q:Int)<(ws.length:Int):=by omega
       have hkk:ws.take q=ws:=List.take_of_length_le (by omega);rw [hkk] at HR4 hml;have h1:(ws.map (·.1)).length≤1000:=by rw [List.length_map];omega
       clear hrow hbr4;go_wp2;refine ⟨⟨j+1,by omega,by simp,by rw [HS.out];exact HR4.out,HB4.out,by rw [HS.out];omega⟩,by simp [intOf];omega⟩
    ·have hlt3':¬(j:Int)<(l.length:Int):=by omega
     have hkk:l.take j=l:=List.take_of_length_le (by omega);rw [hkk] at hrow hml3;rw [←HRK.out] at hrow hml3;obtain ⟨M,hM⟩:∃ M,Ybj key [] (Ye7 pairs l)=M:=⟨_,rfl⟩;rw [hM] at hrow hml3;have HM:Hid (Yes pairs l key=((Yag M key).1 || decide (M.length<4))):=by show _=_;simp only [Yes,hM]
     obtain ⟨am,cm,rfl,_⟩:=Ya6 hrow;have HRM:=Yh hrow;clear hM hrow hbr3 hkk HRK;go_wp2_with (first | (go_at_call 136;go_must (
      refine (Ykx w.heap.size _ M key wr HRM.out).mono ?_;rintro e w5 ⟨rfl,hb5⟩;have HB5:Hid (Below w.heap.size w w5):=HB3.out.trans (hb5.mono (by omega));clear hb5)))
     all_goals
      go_ret;refine ⟨?_,HB5.out.alloc HB5.out.size _⟩;rw [HM.out];have hc:∀ m:Nat,decide ((m:Int)<4)=decide (m<4):=fun m=>by by_cases h:m<4 <;> simp [h] <;> omega
      simp [*]
theorem Ypm:(prog.info? 5).map (fun i=>(i.zero,i.size,i.bytes))=some (some (.int .u8 0),1,1):=by kernel_rfl
theorem Yg9 (base:Nat) (v:Value) (k:Nat) (xs:List Value) (n:Int) (size:Nat) (w:World) (hown:w.ownsRow base 5 1 v k xs) (hb:base≤w.heap.size) (hk:k≤1000) (_hn0:0≤n) (_hn:n<4294967296) (hs:size≤8):
 Calls prog 169 #[v,.int .i64 n,.int .i64 size] w fun e w'=>∃ v',e=.returned v'∧w'.ownsRow base 5 1 v' (k+size) (xs ++ be n size)∧Yb2 w v w' v':=by
 obtain ⟨i0,hi,hz0,hz1,hz2⟩:=info_parts Ypm
 go_enter func169,ntmps169
 go_wp2
 go_loopw [0,7] (fun u i wr=>∃ (m:Nat) (ys:List Value),m≤size∧i=.int .i64 ((m:Int) - 1)∧wr.ownsRow base 5 1 u (k+(size - m)) (xs ++ ys)∧ys ++ be n m=be n size∧Yb2 w v wr u) (fun _ i _=>(intOf i+1).toNat)
 case atStart=>exact ⟨size,[],Nat.le_refl _,rfl,by simpa using hown,rfl,Yb2.refl _ _⟩
 case round=>
  obtain ⟨m,ys,hm,rfl,hown2,hys,hg⟩:=hrel;have HG:=Yh hg;have hb2:base≤wr.heap.size:=by have:=hg.1.size;omega
  match m with
  | 0=>
   clear hg;go_wp2;go_ret;exact ⟨_,rfl,by rw [←hys];simpa [be] using hown2,HG.out⟩
  | m+1=>
   have h0:(0:Int)≤(m:Int):=by omega
   have H1:=Yh hys;clear hys hg;go_wp2_with (first | (at_builtin;go_must (
    refine wpList_append_own_at _ rfl _ _ 46 rfl base 5 i0 (.int .u8 0) 1 1 underlying46 hi hz0 hz1 hz2 rfl (by decide) _ _ _ rfl (hown2.alloc _) ⟨wr.heap.size,0,none⟩ 1 1 [.int .u8 (n / 2 ^ (8*m) % 256)] rfl rfl (cell_one_new _ _ _) (fun x hx=>by simp at hx;subst hx;rfl) (by unfold maxLen;omega) (by omega) ?hbase ?_
    case hbase=>simp;omega
    intro v' w4 hown4 hg4 hnil hat)))
   go_roundw
   case rel=>
    refine ⟨m,ys ++ [.int .u8 (n / 2 ^ (8*m) % 256)],by omega,by go_num,?_,by rw [List.append_assoc];exact H1.out,(HG.out.alloc _).append hg4 hat⟩;rw [show k+(size - m)=k+(size - (m+1))+1 by omega,←List.append_assoc];exact hown4
   case measure=>simp [intOf]
def Ya2 (s:ByteArray) (room:Nat):List Value:=[.int .u8 (s.size:Int)] ++ Lib.strCells s ++ List.replicate (room - s.size) (.int .u8 0)
theorem Yil (base:Nat) (v:Value) (k:Nat) (xs:List Value) (s:ByteArray) (room:Nat) (w:World) (hown:w.ownsRow base 5 1 v k xs) (hb:base≤w.heap.size) (hk:k≤1000) (hs:s.size≤room) (hr:room≤100):
 Calls prog 211 #[v,.string s,.int .i64 room] w fun e w'=>∃ v',e=.returned v'∧w'.ownsRow base 5 1 v' (k+(1+room)) (xs ++ Ya2 s room)∧Yb2 w v w' v':=by
 obtain ⟨i0,hi,hz0,hz1,hz2⟩:=info_parts Ypm
 have tok1:True:=trivial
 have tok2:True:=trivial
 have tok3:True:=trivial
 have HO:=Yh hown
 clear hown
 go_enter func211,ntmps211
 go_wp2_with (first
  | (at_builtin;have _t:=tok1;go_must (
   refine wpList_append_own_at _ rfl _ _ 46 rfl base 5 i0 (.int .u8 0) 1 1 underlying46 hi hz0 hz1 hz2 rfl (by decide) _ _ _ rfl (HO.out.alloc _) ⟨w.heap.size,0,none⟩ 1 1 [.int .u8 (s.size:Int)] rfl rfl (cell_one_new _ _ _) (fun x hx=>by simp at hx;subst hx;rfl) (by unfold maxLen;omega) (by omega) ?hbase ?_
   case hbase=>simp;omega
   intro v1 w1 hown1 hg1 hnil1 hat1;have HG1:Hid (Yb2 w v w1 v1):=((Yb2.refl w v).alloc _).append hg1 hat1;have HO1:=Yh hown1;clear tok1 hg1 hat1 hnil1 hown1))
  | (at_builtin;have _t:=tok2;go_must (
   obtain ⟨v2,w2,hr2,hown2,hg2⟩:=Yuv (ty:=46) underlying46 underlying9 hi hz0 hz1 hz2 HO1.out (by have:=HG1.out.1.size;omega) s (by omega);refine Lib.wpList_append_run _ rfl _ _ 46 9 rfl _ _ rfl rfl v2 w2 hr2 ?_;have HG2:Hid (Yb2 w v w2 v2):=HG1.out.trans hg2;have HO2:=Yh hown2;clear tok2 hr2 hg2 hown2 HG1 HO1))
  | (at_builtin;have _t:=tok3;go_must (
   obtain ⟨v3,w3,hr3,hown3,hg3⟩:=Yuw (ty:=46) underlying46 underlying3 hi hz0 hz1 hz2 HO2.out (by have:=HG2.out.1.size;omega) (room - s.size) (by omega);rw [show ((room - s.size:Nat):Int)=(room:Int) - (s.size:Int) by omega] at hr3;refine Lib.wpList_append_run _ rfl _ _ 46 3 rfl _ _ rfl rfl v3 w3 hr3 ?_;have HG3:Hid (Yb2 w v w3 v3):=HG2.out.trans hg3;have HO3:=Yh hown3;clear tok3 hr3 hg3 hown3 HG2 HO2)))
 go_ret
 refine ⟨_,rfl,?_,HG3.out⟩
 have:=HO3.out
 rw [show k+1+s.size+(room - s.size)=k+(1+room) by omega] at this
 simpa [Ya2] using this
def Yb7 (is:Bool) (s:ByteArray):List Value:=[.int .u8 ((s.size:Int)+if is then 1 else 0)] ++ Lib.strCells s ++ List.replicate (12 - s.size) (.int .u8 0)
theorem Ypn (base:Nat) (v:Value) (k:Nat) (xs:List Value) (is:Bool) (s:ByteArray) (w:World) (hown:w.ownsRow base 5 1 v k xs) (hb:base≤w.heap.size) (hk:k≤500) (hs:s.size≤12):
 Calls prog 298 #[v,.agg #[.bool is,.string s]] w fun e w'=>∃ v',e=.returned v'∧w'.ownsRow base 5 1 v' (k+13) (xs ++ Yb7 is s)∧Yb2 w v w' v':=by
 have HO:Hid (∀ o,(w.alloc o).ownsRow base 5 1 v k xs):=fun o=>hown.alloc o
 have hxl:xs.length=k:=by simpa using hown.1
 have hvb:v.ownBlock≠some w.heap.size:=fun e=>by have:=(hown.lt _ e).2;omega
 obtain ⟨ad,cap,rfl⟩:=Yjt hown
 clear hown
 cases is
 all_goals
  go_enter func298,ntmps298;go_wp2_with (first
   | (go_at_call 211;go_must (
    refine (Yil base _ k xs s 12 _ (HO.out _) (by simp;omega) (by omega) hs (by omega)).mono ?_;rintro e w1 ⟨v1,rfl,hown1,hg1⟩;have hbx:=hg1.block (k:=w.heap.size) (by simp) hvb;rw [heap_alloc_new] at hbx;have c0:=Yaa (j:=0) hbx rfl;obtain ⟨g1,cap1,cur1,rfl,hgb,hgh,hcap1,hcur⟩:=Yhw hown1 (by omega);have d0:w1.cell? ⟨g1,k,none⟩=some (.int .u8 (s.size:Int)):=Yaa hgh (hcur k _ (by rw [List.getElem?_append_right (by omega)];simp [hxl,Ya2]));have f0:=Yah k hgh;have HO1:=Yh hown1;have HG1:Hid (Yb2 w (.slice ad k cap) w1 (.slice (some ⟨g1,0,none⟩) (k+13) cap1)):=((Yb2.refl w _).alloc _).trans hg1;clear hbx hg1 hgh hcur hown1 HO)))
 ·go_ret
  exact ⟨_,rfl,by simpa [Yb7,Ya2] using HO1.out,HG1.out⟩
 ·go_ret
  refine ⟨_,rfl,?_,HG1.out.store _ _⟩;have:=Yux HO1.out k (.int .u8 ((s.size:Int)+1));rw [List.set_append_right _ _ (by omega)] at this;simpa [Yb7,Ya2,hxl] using this
theorem Yu2 (h:Yb2 (w.alloc o).drew (.slice none 0 0) w1 v1):Below w.heap.size w w1∧w.heap.size+1≤w1.heap.size∧w1.heap[w.heap.size]? = some o:=by
 have hs:=h.1.size;have e1:(w.alloc o).drew.heap.size=w.heap.size+1:=by simp
 rw [e1] at hs;have hbl:∀ k,k<w.heap.size+1→w1.heap[k]? = (w.alloc o).heap[k]?:=fun k hk=>h.block (by rw [e1];exact hk) (by simp [Value.ownBlock])
 refine ⟨⟨h.1.os,h.1.tape,h.1.output,by omega,fun k hk=>?_⟩,hs,?_⟩
 ·rw [hbl k (by omega)];exact Below.heap_alloc w _ k hk
 ·rw [hbl _ (by omega)];exact heap_alloc_new w o
theorem Yb2.below (h:Yb2 w v w' v') {base:Nat} {e:TypeId} {n:Nat} {xs:List Value} (ho:w.ownsRow base e 1 v n xs) (hB:B≤base) (hb:base≤w.heap.size):Below B w w':=
 ⟨h.1.os,h.1.tape,h.1.output,h.1.size,fun k hk=>h.block (by omega) (fun e=>by have:=(ho.lt _ e).1;omega)⟩
theorem Yu3 (a b:Int) (w:World) (ha:0≤a) (ha':a<4294967296) (hb:0≤b) (hb':b<4294967296):
 Calls prog 213 #[.agg #[.int .u32 a,.int .u32 b]] w fun e w'=>∃ v',e=.returned v'∧w'.ownsRow (w.heap.size+1) 5 1 v' 8 (be a 4 ++ be b 4)∧Below w.heap.size w w':=by
 have tok1:True:=trivial
 have hwa:IntKind.i64.wrap a=a:=by rw [IntKind.wrap_i64];omega
 have hwb:IntKind.i64.wrap b=b:=by rw [IntKind.wrap_i64];omega
 go_enter func213,ntmps213
 go_wp2
 go_region_with (first
  | (go_at_call 169;have _t:=tok1;go_must (
   refine (Yg9 (w.heap.size+1) _ 0 [] a 4 _ (World.ownsRow_nil _ _ _ _) (by simp) (by omega) ha ha' (by omega)).mono ?_;rintro e w1 ⟨v1,rfl,hown1,hg1⟩;obtain ⟨hB1,hS1,hbx2⟩:=Yu2 hg1;have c1:w1.cell? ⟨w.heap.size,1,none⟩=some (.int .u32 b):=Yaa (j:=1) hbx2 rfl;have HO1:=Yh hown1;have HB1:=Yh hB1;have HS1:=Yh hS1;clear tok1 hbx2 hg1 hown1 hB1 hS1))
  | (go_at_call 169;go_must (
   refine (Yg9 (w.heap.size+1) _ (0+4) ([] ++ be a 4) b 4 _ HO1.out HS1.out (by omega) hb hb' (by omega)).mono ?_;rintro e w2 ⟨v2,rfl,hown2,hg2⟩;have HO2:=Yh hown2;have HB2:Hid (Below w.heap.size w w2):=HB1.out.trans (hg2.below HO1.out (by omega) HS1.out);clear hown2 hg2)))
 all_goals
  go_wp2;go_ret;exact ⟨v2,rfl,HO2.out,HB2.out⟩
end Go.Proofs.YtihbngfbcnojcaaGreat
