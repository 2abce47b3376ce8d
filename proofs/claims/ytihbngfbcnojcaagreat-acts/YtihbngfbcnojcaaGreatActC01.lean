import Derived.WalkKit
import Derived.WideMake
import Derived.Maps.AppendAt
import Derived.Lib.AppendStr
import Derived.Lib.AppendZeros
import Derived.WalkSpells
import Derived.WalkLawsBesides
import Derived.Test.YtihbngfbcnojcaaGreatProg
import Derived.Deep.DeepMust
import Derived.RegionTactic
import Derived.BigRegion
import Derived.Deep.RegionWith
import Derived.Deep.RegionLaw
import Derived.Laws.CopyOwn
set_option maxRecDepth 100000
set_option maxHeartbeats 8000000
namespace Go.Proofs.YtihbngfbcnojcaaGreat
open Go.RowKit Tryz
theorem Yh {p:Prop} (h:p) : Hid p:=h
end Go.Proofs.YtihbngfbcnojcaaGreat
namespace Go.Proofs.YtihbngfbcnojcaaGreat
open Go.RowKit Tryz
variable {bs:List Int} {xs:List Value} {B b base cap g gb k n off size:Nat} {o:Obj} {e t ty u:TypeId} {v v' v1 v2:Value} {w w' w1 w2:World}
def Yb2 (w:World) (v:Value) (w':World) (v':Value):Prop:=w.grownBy w' v.ownBlock∧(v'.ownBlock=v.ownBlock∨∃ k,w.heap.size≤k∧v'.ownBlock=some k)
theorem Yb2.refl (w:World) (v:Value):Yb2 w v w v:=⟨⟨rfl,rfl,rfl,Nat.le_refl _,fun _ _ _=>rfl⟩,.inl rfl⟩
theorem Yb2.trans (h:Yb2 w v w1 v1) (k:Yb2 w1 v1 w2 v2):Yb2 w v w2 v2:=by
 obtain ⟨h1,h2⟩:=h;obtain ⟨k1,k2⟩:=k;have hs:=h1.size;refine ⟨⟨k1.os.trans h1.os,k1.tape.trans h1.tape,k1.output.trans h1.output,Nat.le_trans hs k1.size,fun i hi hne=>?_⟩,?_⟩
 ·rw [k1.block i (by omega) ?_,h1.block i hi hne]
  rcases h2 with h2 | ⟨j,hj,h2⟩
  ·rw [h2];exact hne
  ·rw [h2];intro e;cases e;omega
 ·rcases k2 with k2 | ⟨j,hj,k2⟩
  ·rcases h2 with h2 | ⟨i,hi,h2⟩
   ·exact .inl (k2.trans h2)
   ·exact .inr ⟨i,hi,k2.trans h2⟩
  ·exact .inr ⟨j,by omega,k2⟩
theorem Yb2.alloc (h:Yb2 w v w1 v1) (o:Obj):Yb2 w v (w1.alloc o) v1:=
 h.trans ⟨World.grownBy_alloc _ _ _,.inl rfl⟩
theorem Yb2.append (h:Yb2 w v w1 v1) (hg:w1.grownBy w2 v1.ownBlock) (ha:v2.ownBlock=v1.ownBlock∨v2.ownBlock=some w1.heap.size):Yb2 w v w2 v2:=
 h.trans ⟨hg,ha.imp id fun e=>⟨_,Nat.le_refl _,e⟩⟩
theorem Yb2.block (h:Yb2 w v w' v') {k:Nat} (hk:k<w.heap.size) (hne:v.ownBlock≠some k):w'.heap[k]? = w.heap[k]?:=h.1.block k hk (fun e=>hne e.symm)
theorem Ype {news:List Value} {r:Result Value} (hown:w.ownsRow base e 1 v k xs) (hb:base≤w.heap.size) (hl:news.length=n)
 (hnil:v=.slice none 0 0→n=0→r=.ok v w)
 (hroom:∀ g cap cur,v=.slice (some ⟨g,0,none⟩) k cap→w.heap[g]? = some (.cells cur e (0,0))→cur.size=cap→k+n≤cap→r=.ok (.slice (some ⟨g,0,none⟩) (k+n) cap) (w.setRow g (cur.toList.take k ++ news ++ cur.toList.drop (k+n)).toArray))
 (hgrow:∀ ad cap,v=.slice ad k cap→cap<k+n→∃ c rest,r=.ok (.slice (some ⟨w.heap.size,0,none⟩) (k+n) c) (w.drew.alloc (.cells ((xs ++ news).toArray ++ rest) e))∧k+n+rest.size=c∧c≤maxLen):
 ∃ v' w',r=.ok v' w'∧w'.ownsRow base e 1 v' (k+n) (xs ++ news)∧Yb2 w v w' v':=by
 have hxl:xs.length=k:=by simpa using hown.1
 have hlen:(xs ++ news).length=(k+n)*1:=by rw [List.length_append,hxl,hl,Nat.mul_one]
 have grown:∀ ad cap,v=.slice ad k cap→cap<k+n→∃ v' w',r=.ok v' w'∧w'.ownsRow base e 1 v' (k+n) (xs ++ news)∧Yb2 w v w' v':=by
  intro ad cap hv hc;obtain ⟨c,rest,hr,hcs,hcm⟩:=hgrow ad cap hv hc;refine ⟨_,_,hr,⟨hlen,.inr ⟨w.heap.size,c,_,rfl,hb,heap_alloc_new w.drew _,by omega,hcm,?_,?_⟩⟩,⟨⟨rfl,rfl,rfl,by simp,fun i hi _=>Below.heap_alloc w.drew _ i hi⟩,.inr ⟨_,Nat.le_refl _,rfl⟩⟩⟩
  ·simp only [Array.size_append,List.size_toArray,hlen];omega
  ·simp only [Array.toList_append]
   rw [←hlen];exact List.take_left
 rcases hown.2 with ⟨rfl,rfl⟩ | ⟨g,cap,cur,rfl,hbg,hg,hnc,hcm,hcs,htake⟩
 ·by_cases hn:n=0
  ·subst hn
   have h1:xs=[]:=List.eq_nil_of_length_eq_zero hxl;have h2:news=[]:=List.eq_nil_of_length_eq_zero hl;subst h1 h2;exact ⟨_,_,hnil rfl rfl,hown,Yb2.refl _ _⟩
  ·exact grown _ _ rfl (by omega)
 ·by_cases hroom':k+n≤cap
  ·have hcs':cur.size=cap:=by simpa using hcs
   refine ⟨_,_,hroom g cap cur rfl hg hcs' hroom',⟨hlen,.inr ⟨g,cap,_,rfl,hbg,setRow_heap w g cur _ e _ hg,hroom',hcm,?_,?_⟩⟩,⟨⟨rfl,rfl,rfl,by simp,fun i _ hi=>setRow_other w g i _ (fun e=>hi (by simp [Value.ownBlock,e]))⟩,.inl rfl⟩⟩
   ·simp only [List.size_toArray,List.length_append,List.length_take,List.length_drop,Array.length_toList,hl]
    omega
   ·have ht':cur.toList.take k=xs:=by simpa using htake
    simp only [ht'];rw [←hlen];exact List.take_left
  ·exact grown _ _ rfl (by omega)
theorem Yuv {P:Program} {i:TypeInfo} (ht:P.underlying t=some (.slice e)) (hu:P.underlying u=some .string) (hi:P.info? e=some i) (hz:i.zero=some (.int .u8 0)) (h1:i.size=1) (hy:i.bytes=1)
 {v:Value} {k:Nat} {xs:List Value} (hown:w.ownsRow base e 1 v k xs) (hb:base≤w.heap.size) (s:ByteArray) (hs:k+s.size≤1000000):
 ∃ v' w',(Builtin.append_ #[t,u] ty #[v,.string s]).run P w=.ok v' w'∧w'.ownsRow base e 1 v' (k+s.size) (xs ++ Lib.strCells s)∧Yb2 w v w' v':=by
 refine Ype hown hb (Lib.strCells_length s) ?_ ?_ ?_
 ·rintro rfl h0
  have hf:=Lib.run_firstCells_string (P:=P) w 1 s;rw [h0] at hf;simp [Builtin.append_,run_underlying ht,run_underlying hu,sizeOf,typeInfo,hi,h1,Builtin.lenOf,h0,hf]
 ·rintro g cap cur rfl hg hc hr
  exact Lib.run_append_room_string (P:=P) w t u ty e i ht hu hi h1 g k cap cur hg s hr (by omega)
 ·rintro ad cap rfl hc
  have hcl:grownCap w (k+s.size) cap e≤maxLen:=grownCap_le_maxLen w _ _ e (by unfold maxLen;omega);have hge:=grownCap_ge w (k+s.size) cap e;refine ⟨grownCap w (k+s.size) cap e,Builtin.zeroCells (Value.int .u8 0).cells (grownCap w (k+s.size) cap e - (k+s.size)),?_,by rw [size_zeroCells];simp [Value.cells];omega,hcl⟩;rcases hown.2 with ⟨h,rfl⟩ | ⟨g,cap',cur,h,_,hg,_,_,_,htake⟩
  ·simp at h
   obtain ⟨rfl,rfl⟩:=h;have hx:xs=[]:=List.eq_nil_of_length_eq_zero (by simpa using hown.1);subst hx;have hr:=run_append_nil_string (P:=P) w t u ty e i (.int .u8 0) ht hu hi hz s (by omega) (by omega) (by rw [hy];omega);rw [hr];have e1:(s.data.map fun b=>Value.int .u8 b.toNat)=(Lib.strCells s).toArray:=by
    apply Array.ext';simp [Lib.strCells]
   simp [e1]
  ·simp at h
   obtain ⟨rfl,rfl⟩:=h;have hr:=Lib.run_append_grow_string (P:=P) w t u ty e i (.int .u8 0) ht hu hi hz ⟨g,0,none⟩ k cap xs (by rw [h1];simpa using hown.1) (hown.cells (g:=g) rfl) s (by omega) (by omega) (by rw [hy];exact growslice_fits (by omega) (by omega));rw [hr];simp
theorem Ypf (n:Nat):Builtin.zeroCells (Value.int .u8 0).cells n=(List.replicate n (Value.int .u8 0)).toArray:=by
 apply Array.ext
 ·simp [size_zeroCells,Value.cells]
 ·intro i h1 h2
  simp [Builtin.zeroCells,Value.cells,Nat.mod_one]
theorem Yuw {P:Program} {i:TypeInfo} {kn:IntKind} (ht:P.underlying t=some (.slice e)) (hu:P.underlying u=some (.int kn)) (hi:P.info? e=some i) (hz:i.zero=some (.int .u8 0)) (h1:i.size=1) (hy:i.bytes=1)
 {v:Value} {k:Nat} {xs:List Value} (hown:w.ownsRow base e 1 v k xs) (hb:base≤w.heap.size) (n:Nat) (hs:k+n≤1000000):
 ∃ v' w',(Builtin.append_ #[t,u] ty #[v,.int .i64 n]).run P w=.ok v' w'∧w'.ownsRow base e 1 v' (k+n) (xs ++ List.replicate n (.int .u8 0))∧Yb2 w v w' v':=by
 have hw:IntKind.i64.wrap (n:Int)=n:=by rw [IntKind.wrap_i64];omega
 have hneg:¬((n:Int)<0):=by omega
 have h48i:¬(281474976710656<(n:Int)):=by omega
 refine Ype hown hb (by simp) ?_ ?_ ?_
 ·rintro rfl h0
  subst h0;simp [Builtin.append_,run_underlying ht,run_underlying hu,sizeOf,typeInfo,hi,hy,asInt,asIntOf,IntKind.wrap_i64]
 ·rintro g cap cur rfl hg hc hr
  have hst:=run_storeCells_at P g k e (List.replicate n (Value.int .u8 0)) 0 cur w hg (by simp;omega) (fun u hu=>by rw [List.eq_of_mem_replicate hu];rfl);simp only [Nat.add_zero,List.length_replicate] at hst;by_cases h0:n=0
  ·subst h0
   simp at hst;simp [Builtin.append_,run_underlying ht,run_underlying hu,sizeOf,typeInfo,hi,h1,hy,asInt,asIntOf,IntKind.wrap_i64,Addr.add_lit,hst,show k≤cap by omega]
  ·simp [Builtin.append_,run_underlying ht,run_underlying hu,sizeOf,typeInfo,zeroValue,hi,hz,h1,hy,asInt,asIntOf,hw,hneg,h48i,hr,h0,Ypf,Addr.add_lit,hst]
 ·rintro ad cap rfl hc
  have hcl:grownCap w (k+n) cap e≤maxLen:=grownCap_le_maxLen w _ _ e (by unfold maxLen;omega);have hge:=grownCap_ge w (k+n) cap e;refine ⟨grownCap w (k+n) cap e,Builtin.zeroCells (Value.int .u8 0).cells (grownCap w (k+n) cap e - (k+n)),?_,by rw [size_zeroCells];simp [Value.cells];omega,hcl⟩;have hn:¬(k+n≤cap):=by omega
  have h63':¬(9223372036854775807<((k:Int)+(n:Int))):=by omega
  have h48':¬(281474976710656<Builtin.nextslicecap (k+n) cap):=by have:=growslice_fits (bytes:=1) hc (by omega);omega
  have hf:(Builtin.firstCells 1 k (.slice ad k cap)).run P w.drew=.ok xs.toArray w.drew:=by
   rcases hown.2 with ⟨h,rfl⟩ | ⟨g,cap',cur,h,_,hg,_,_,_,htake⟩
   ·simp at h
    obtain ⟨rfl,rfl⟩:=h;have hx:xs=[]:=List.eq_nil_of_length_eq_zero (by simpa using hown.1);subst hx;simp [run_firstCells_none]
   ·simp at h
    obtain ⟨rfl,rfl⟩:=h;exact run_firstCells_some (P:=P) w.drew 1 k ⟨g,0,none⟩ k cap xs (by simpa using hown.1) (by simpa using hown.cells (g:=g) rfl)
  have h0:¬n=0:=by
   rcases hown.2 with ⟨h,rfl⟩ | ⟨g,cap',cur,h,_,hg,hle,_,_,htake⟩
   ·simp at h;omega
   ·simp at h;omega
  simp [Builtin.append_,run_underlying ht,run_underlying hu,sizeOf,typeInfo,zeroValue,hi,hz,h1,hy,asInt,asIntOf,hw,hneg,h48i,hn,h0,h63',h48',Ypf,Question.forced,hf,newRow,grownCap];congr 2;apply Array.ext';simp [List.append_assoc]
theorem Yaj (h:w.heap[k]? = some o):k<w.heap.size:=(Array.getElem?_eq_some_iff.1 h).1
theorem Yaa {j:Nat} {cs:Array Value} {fz:Nat×Nat} (h:w.heap[b]? = some (.cells cs t fz)) (hv:cs[j]? = some v):w.cell? ⟨b,j,none⟩=some v:=by
 simp [World.cell?,h,hv]
theorem Yah (j:Nat) {cs:Array Value} {t:TypeId} (h:w.heap[b]? = some (.cells cs t (0,0))):w.frozen? ⟨b,j,none⟩=false:=by
 simp [World.frozen?,h]
theorem Yak (w:World) (b j:Nat) (u:Value) (cs:Array Value) (t:TypeId) (h:w.heap[b]? = some (.cells cs t (0,0))):
 (w.setCell ⟨b,j,none⟩ u).heap[b]? = some (.cells (cs.setIfInBounds j u) t (0,0)):=by
 rw [setCell_eq_setRow w b j cs t (0,0) u h]
 exact setRow_heap w b cs _ t (0,0) h
theorem Yjt (h:w.ownsRow base e size v n xs):∃ ad cap,v=.slice ad n cap:=by
 rcases h.2 with ⟨h2,rfl⟩ | ⟨g,cap,cur,h2,_⟩
 ·exact ⟨_,_,h2⟩
 ·exact ⟨_,_,h2⟩
theorem Yhw (h:w.ownsRow base e 1 v n xs) (h0:0<n):
 ∃ g cap cur,v=.slice (some ⟨g,0,none⟩) n cap∧base≤g∧w.heap[g]? = some (.cells cur e (0,0))∧n≤cap∧(∀ (j:Nat) u,xs[j]? = some u→cur[j]? = some u):=by
 rcases h.2 with ⟨_,h⟩ | ⟨g,cap,cur,h1,h2,h3,h4,_,_,h5⟩
 ·omega
 ·refine ⟨g,cap,cur,h1,h2,h3,h4,fun j u hu=>?_⟩
  rw [←h5,List.getElem?_take] at hu;split at hu
  ·simpa using hu
  ·cases hu
theorem Yux (h:w.ownsRow base e 1 (.slice (some ⟨g,0,none⟩) n cap) n xs) (j:Nat) (u:Value):
 (w.setCell ⟨g,j,none⟩ u).ownsRow base e 1 (.slice (some ⟨g,0,none⟩) n cap) n (xs.set j u):=by
 rcases h.2 with ⟨h1,_⟩ | ⟨g',cap',cur,h1,h2,h3,h4,h5,h6,h7⟩
 ·cases h1
 ·simp at h1
  obtain ⟨rfl,rfl⟩:=h1;refine ⟨by simpa using h.1,.inr ⟨g,cap,_,rfl,h2,Yak w g j u cur e h3,h4,h5,by simpa using h6,?_⟩⟩;rw [←h7];simp [List.take_set]
theorem Yb2.store (h:Yb2 w v w1 (.slice (some ⟨g,0,none⟩) n cap)) (j:Nat) (u:Value):Yb2 w v (w1.setCell ⟨g,j,none⟩ u) (.slice (some ⟨g,0,none⟩) n cap):=
 h.trans ⟨⟨rfl,rfl,rfl,by simp [World.setCell],fun k _ hne=>Below.heap_setCell _ _ _ _ (fun e=>hne (by simp [Value.ownBlock,e]))⟩,.inl rfl⟩
def be (n:Int):Nat→List Value
 | 0=>[]
 | k+1=>.int .u8 (n / 2 ^ (8*k) % 256) :: be n k
theorem Yeq (n:Int) (k:Nat):(be n k).length=k:=by induction k <;> simp_all [be]
abbrev Yaf:=List (ByteArray×ByteArray)
def Yad (ps:Yaf):List Value:=ps.flatMap fun p=>[.string p.1,.string p.2]
theorem Yds (ps:Yaf):(Yad ps).length=ps.length*2:=by
 induction ps with
 | nil=>rfl
 | cons p r ih=>simp only [Yad,List.flatMap_cons,List.length_append,List.length_cons,List.length_nil] at *;omega
theorem Yg5 (ps qs:Yaf):Yad (ps ++ qs)=Yad ps ++ Yad qs:=by simp [Yad]
theorem Ye2:∀ (ps:Yaf) (i:Nat) (p:ByteArray×ByteArray),ps[i]? = some p→(Yad ps)[i*2]? = some (.string p.1)∧(Yad ps)[i*2+1]? = some (.string p.2)
 | [],i,p,h=>by simp at h
 | q :: r,0,p,h=>by simp at h;subst h;simp [Yad]
 | q :: r,i+1,p,h=>by
  have:=Ye2 r i p (by simpa using h);simp only [Yad,List.flatMap_cons,Nat.succ_mul,List.cons_append,List.nil_append,Nat.add_assoc] at *;exact ⟨this.1,this.2⟩
theorem Yal (h:w.ownsRow base e size (.slice (some ⟨g,0,none⟩) n cap) n xs) {j:Nat} {u:Value} (hu:xs[j]? = some u):w.cell? ⟨g,j,none⟩=some u:=by
 rcases h.2 with ⟨h1,_⟩ | ⟨g',cap',cur,h1,h2,h3,h4,h5,h6,h7⟩
 ·cases h1
 ·simp at h1
  obtain ⟨rfl,rfl⟩:=h1;refine Yaa h3 ?_;rw [←h7,List.getElem?_take] at hu;split at hu
  ·simpa using hu
  ·cases hu
theorem Ybn (h:w.ownsRow base e size v n xs) (hn:0<n):∃ g cap,v=.slice (some ⟨g,0,none⟩) n cap:=by
 rcases h.2 with ⟨_,h⟩ | ⟨g,cap,cur,h,_⟩
 ·omega
 ·exact ⟨g,cap,h⟩
theorem Ya6 (h:w.ownsRow base e size v n xs):∃ p cap,v=.slice p n cap∧n≤maxLen:=by
 rcases h.2 with ⟨h,h0⟩ | ⟨g,cap,cur,h,_,_,h1,h2,_⟩
 ·exact ⟨none,0,by rw [h,h0],by omega⟩
 ·exact ⟨some ⟨g,0,none⟩,cap,h,by omega⟩
theorem Ybe (h:w.ownsRow base e size v n xs) (hb:Below B w w') (hB:∀ g,v.ownBlock=some g→g<B):w'.ownsRow base e size v n xs:=by
 refine ⟨h.1,?_⟩;rcases h.2 with h1 | ⟨g,cap,cur,h1,h2,h3,h4⟩
 ·exact .inl h1
 ·refine .inr ⟨g,cap,cur,h1,h2,?_,h4⟩
  rw [hb.block g (hB g (by rw [h1];rfl))];exact h3
theorem Yfg {base':Nat} (h:w.ownsRow base e size v n xs) (hb:base'≤base):w.ownsRow base' e size v n xs:=by
 refine ⟨h.1,?_⟩;rcases h.2 with h1 | ⟨g,cap,cur,h1,h2,h3⟩
 ·exact .inl h1
 ·exact .inr ⟨g,cap,cur,h1,by omega,h3⟩
theorem Ypg:(prog.info? 5).map (fun i=>(i.zero,i.size,i.bytes))=some (some (.int .u8 0),1,1):=by kernel_rfl
theorem Yg6 (base:Nat) (v:Value) (k:Nat) (xs:List Value) (n:Int) (size:Nat) (w:World) (hown:w.ownsRow base 5 1 v k xs) (hb:base≤w.heap.size) (hk:k≤1000) (_hn0:0≤n) (_hn:n<4294967296) (hs:size≤8):
 Calls prog 169 #[v,.int .i64 n,.int .i64 size] w fun e w'=>∃ v',e=.returned v'∧w'.ownsRow base 5 1 v' (k+size) (xs ++ be n size)∧Yb2 w v w' v':=by
 obtain ⟨i0,hi,hz0,hz1,hz2⟩:=info_parts Ypg
 go_enter func169,ntmps169
 go_wp2
 go_loopw [0,7] (fun u i wr=>∃ (m:Nat) (ys:List Value),m≤size∧i=.int .i64 ((m:Int) - 1)∧wr.ownsRow base 5 1 u (k+(size - m)) (xs ++ ys)∧ys ++ be n m=be n size∧Yb2 w v wr u) (fun _ i _=>(intOf i+1).toNat)
 case atStart=>exact ⟨size,[],Nat.le_refl _,rfl,by simpa using hown,rfl,Yb2.refl _ _⟩
 case round=>
  obtain ⟨m,ys,hm,rfl,hown2,hys,hg⟩:=hrel;have HG:=Yh hg;have hb2:base≤wr.heap.size:=by have:=hg.1.size;omega
  match m with
  | 0=>
   clear hg;go_wp2;go_ret;exact ⟨_,rfl,by rw [←hys];simpa [be] using hown2,HG.out⟩
  | m+1=>
   have h0:(0:Int)≤(m:Int):=by omega
   have H1:=Yh hys;clear hys hg;go_wp2_with (first | (at_builtin;go_must (
    refine wpList_append_own_at _ rfl _ _ 46 rfl base 5 i0 (.int .u8 0) 1 1 underlying46 hi hz0 hz1 hz2 rfl (by decide) _ _ _ rfl (hown2.alloc _) ⟨wr.heap.size,0,none⟩ 1 1 [.int .u8 (n / 2 ^ (8*m) % 256)] rfl rfl (cell_one_new _ _ _) (fun x hx=>by simp at hx;subst hx;rfl) (by unfold maxLen;omega) (by omega) ?hbase ?_
    case hbase=>simp;omega
    intro v' w4 hown4 hg4 hnil hat)))
   go_roundw
   case rel=>
    refine ⟨m,ys ++ [.int .u8 (n / 2 ^ (8*m) % 256)],by omega,by go_num,?_,by rw [List.append_assoc];exact H1.out,(HG.out.alloc _).append hg4 hat⟩;rw [show k+(size - m)=k+(size - (m+1))+1 by omega,←List.append_assoc];exact hown4
   case measure=>simp [intOf]
def Ya1 (s:ByteArray) (room:Nat):List Value:=[.int .u8 (s.size:Int)] ++ Lib.strCells s ++ List.replicate (room - s.size) (.int .u8 0)
theorem Yik (base:Nat) (v:Value) (k:Nat) (xs:List Value) (s:ByteArray) (room:Nat) (w:World) (hown:w.ownsRow base 5 1 v k xs) (hb:base≤w.heap.size) (hk:k≤1000) (hs:s.size≤room) (hr:room≤100):
 Calls prog 211 #[v,.string s,.int .i64 room] w fun e w'=>∃ v',e=.returned v'∧w'.ownsRow base 5 1 v' (k+(1+room)) (xs ++ Ya1 s room)∧Yb2 w v w' v':=by
 obtain ⟨i0,hi,hz0,hz1,hz2⟩:=info_parts Ypg
 have tok1:True:=trivial
 have tok2:True:=trivial
 have tok3:True:=trivial
 have HO:=Yh hown
 clear hown
 go_enter func211,ntmps211
 go_wp2_with (first
  | (at_builtin;have _t:=tok1;go_must (
   refine wpList_append_own_at _ rfl _ _ 46 rfl base 5 i0 (.int .u8 0) 1 1 underlying46 hi hz0 hz1 hz2 rfl (by decide) _ _ _ rfl (HO.out.alloc _) ⟨w.heap.size,0,none⟩ 1 1 [.int .u8 (s.size:Int)] rfl rfl (cell_one_new _ _ _) (fun x hx=>by simp at hx;subst hx;rfl) (by unfold maxLen;omega) (by omega) ?hbase ?_
   case hbase=>simp;omega
   intro v1 w1 hown1 hg1 hnil1 hat1;have HG1:Hid (Yb2 w v w1 v1):=((Yb2.refl w v).alloc _).append hg1 hat1;have HO1:=Yh hown1;clear tok1 hg1 hat1 hnil1 hown1))
  | (at_builtin;have _t:=tok2;go_must (
   obtain ⟨v2,w2,hr2,hown2,hg2⟩:=Yuv (ty:=46) underlying46 underlying9 hi hz0 hz1 hz2 HO1.out (by have:=HG1.out.1.size;omega) s (by omega);refine Lib.wpList_append_run _ rfl _ _ 46 9 rfl _ _ rfl rfl v2 w2 hr2 ?_;have HG2:Hid (Yb2 w v w2 v2):=HG1.out.trans hg2;have HO2:=Yh hown2;clear tok2 hr2 hg2 hown2 HG1 HO1))
  | (at_builtin;have _t:=tok3;go_must (
   obtain ⟨v3,w3,hr3,hown3,hg3⟩:=Yuw (ty:=46) underlying46 underlying3 hi hz0 hz1 hz2 HO2.out (by have:=HG2.out.1.size;omega) (room - s.size) (by omega);rw [show ((room - s.size:Nat):Int)=(room:Int) - (s.size:Int) by omega] at hr3;refine Lib.wpList_append_run _ rfl _ _ 46 3 rfl _ _ rfl rfl v3 w3 hr3 ?_;have HG3:Hid (Yb2 w v w3 v3):=HG2.out.trans hg3;have HO3:=Yh hown3;clear tok3 hr3 hg3 hown3 HG2 HO2)))
 go_ret
 refine ⟨_,rfl,?_,HG3.out⟩
 have:=HO3.out
 rw [show k+1+s.size+(room - s.size)=k+(1+room) by omega] at this
 simpa [Ya1] using this
def Yb7 (is:Bool) (s:ByteArray):List Value:=[.int .u8 ((s.size:Int)+if is then 1 else 0)] ++ Lib.strCells s ++ List.replicate (12 - s.size) (.int .u8 0)
theorem Yph (base:Nat) (v:Value) (k:Nat) (xs:List Value) (is:Bool) (s:ByteArray) (w:World) (hown:w.ownsRow base 5 1 v k xs) (hb:base≤w.heap.size) (hk:k≤500) (hs:s.size≤12):
 Calls prog 298 #[v,.agg #[.bool is,.string s]] w fun e w'=>∃ v',e=.returned v'∧w'.ownsRow base 5 1 v' (k+13) (xs ++ Yb7 is s)∧Yb2 w v w' v':=by
 have HO:Hid (∀ o,(w.alloc o).ownsRow base 5 1 v k xs):=fun o=>hown.alloc o
 have hxl:xs.length=k:=by simpa using hown.1
 have hvb:v.ownBlock≠some w.heap.size:=fun e=>by have:=(hown.lt _ e).2;omega
 obtain ⟨ad,cap,rfl⟩:=Yjt hown
 clear hown
 cases is
 all_goals
  go_enter func298,ntmps298;go_wp2_with (first
   | (go_at_call 211;go_must (
    refine (Yik base _ k xs s 12 _ (HO.out _) (by simp;omega) (by omega) hs (by omega)).mono ?_;rintro e w1 ⟨v1,rfl,hown1,hg1⟩;have hbx:=hg1.block (k:=w.heap.size) (by simp) hvb;rw [heap_alloc_new] at hbx;have c0:=Yaa (j:=0) hbx rfl;obtain ⟨g1,cap1,cur1,rfl,hgb,hgh,hcap1,hcur⟩:=Yhw hown1 (by omega);have d0:w1.cell? ⟨g1,k,none⟩=some (.int .u8 (s.size:Int)):=Yaa hgh (hcur k _ (by rw [List.getElem?_append_right (by omega)];simp [hxl,Ya1]));have f0:=Yah k hgh;have HO1:=Yh hown1;have HG1:Hid (Yb2 w (.slice ad k cap) w1 (.slice (some ⟨g1,0,none⟩) (k+13) cap1)):=((Yb2.refl w _).alloc _).trans hg1;clear hbx hg1 hgh hcur hown1 HO)))
 ·go_ret
  exact ⟨_,rfl,by simpa [Yb7,Ya1] using HO1.out,HG1.out⟩
 ·go_ret
  refine ⟨_,rfl,?_,HG1.out.store _ _⟩;have:=Yux HO1.out k (.int .u8 ((s.size:Int)+1));rw [List.set_append_right _ _ (by omega)] at this;simpa [Yb7,Ya1,hxl] using this
theorem Yuy (h:Yb2 (w.alloc o).drew (.slice none 0 0) w1 v1):Below w.heap.size w w1∧w.heap.size+1≤w1.heap.size∧w1.heap[w.heap.size]? = some o:=by
 have hs:=h.1.size;have e1:(w.alloc o).drew.heap.size=w.heap.size+1:=by simp
 rw [e1] at hs;have hbl:∀ k,k<w.heap.size+1→w1.heap[k]? = (w.alloc o).heap[k]?:=fun k hk=>h.block (by rw [e1];exact hk) (by simp [Value.ownBlock])
 refine ⟨⟨h.1.os,h.1.tape,h.1.output,by omega,fun k hk=>?_⟩,hs,?_⟩
 ·rw [hbl k (by omega)];exact Below.heap_alloc w _ k hk
 ·rw [hbl _ (by omega)];exact heap_alloc_new w o
theorem Yb2.below (h:Yb2 w v w' v') {base:Nat} {e:TypeId} {n:Nat} {xs:List Value} (ho:w.ownsRow base e 1 v n xs) (hB:B≤base) (hb:base≤w.heap.size):Below B w w':=
 ⟨h.1.os,h.1.tape,h.1.output,h.1.size,fun k hk=>h.block (by omega) (fun e=>by have:=(ho.lt _ e).1;omega)⟩
theorem Yuz (a b:Int) (w:World) (ha:0≤a) (ha':a<4294967296) (hb:0≤b) (hb':b<4294967296):
 Calls prog 213 #[.agg #[.int .u32 a,.int .u32 b]] w fun e w'=>∃ v',e=.returned v'∧w'.ownsRow (w.heap.size+1) 5 1 v' 8 (be a 4 ++ be b 4)∧Below w.heap.size w w':=by
 have tok1:True:=trivial
 have hwa:IntKind.i64.wrap a=a:=by rw [IntKind.wrap_i64];omega
 have hwb:IntKind.i64.wrap b=b:=by rw [IntKind.wrap_i64];omega
 go_enter func213,ntmps213
 go_wp2
 go_region_with (first
  | (go_at_call 169;have _t:=tok1;go_must (
   refine (Yg6 (w.heap.size+1) _ 0 [] a 4 _ (World.ownsRow_nil _ _ _ _) (by simp) (by omega) ha ha' (by omega)).mono ?_;rintro e w1 ⟨v1,rfl,hown1,hg1⟩;obtain ⟨hB1,hS1,hbx2⟩:=Yuy hg1;have c1:w1.cell? ⟨w.heap.size,1,none⟩=some (.int .u32 b):=Yaa (j:=1) hbx2 rfl;have HO1:=Yh hown1;have HB1:=Yh hB1;have HS1:=Yh hS1;clear tok1 hbx2 hg1 hown1 hB1 hS1))
  | (go_at_call 169;go_must (
   refine (Yg6 (w.heap.size+1) _ (0+4) ([] ++ be a 4) b 4 _ HO1.out HS1.out (by omega) hb hb' (by omega)).mono ?_;rintro e w2 ⟨v2,rfl,hown2,hg2⟩;have HO2:=Yh hown2;have HB2:Hid (Below w.heap.size w w2):=HB1.out.trans (hg2.below HO1.out (by omega) HS1.out);clear hown2 hg2)))
 all_goals
  go_wp2;go_ret;exact ⟨v2,rfl,HO2.out,HB2.out⟩
theorem sz5:(prog.info? 5).map (·.size)=some 1:=by kernel_rfl
theorem Ye3 (n:Int) (k:Nat):∀ u∈be n k,u.oneCell'=true:=by
 induction k with
 | zero=>simp [be]
 | succ k ih=>
  intro u hu;simp [be] at hu;rcases hu with rfl | hu
  ·rfl
  ·exact ih u hu
theorem Yu0 (a b:Int):∀ u∈be a 4 ++ be b 4,u.oneCell'=true:=by
 intro u hu;rcases List.mem_append.1 hu with h | h
 ·exact Ye3 _ _ u h
 ·exact Ye3 _ _ u h
theorem Yil (g j:Nat):(⟨g,0,none⟩:Addr).add j=⟨g,j,none⟩:=by unfold Addr.add;split <;> simp_all
theorem Ykx {o1 o2 o3:Obj}:Below w.heap.size w (((w.alloc o1).alloc o2).alloc o3)∧(((w.alloc o1).alloc o2).alloc o3).heap.size=w.heap.size+3 ∧
 (((w.alloc o1).alloc o2).alloc o3).heap[w.heap.size]? = some o1∧(((w.alloc o1).alloc o2).alloc o3).heap[w.heap.size+1]? = some o2∧(((w.alloc o1).alloc o2).alloc o3).heap[w.heap.size+1+1]? = some o3:=by
 refine ⟨(((Below.refl _ _).alloc (Nat.le_refl _) _).alloc (by simp) _).alloc (by simp;omega) _,by simp,?_,?_,?_⟩
 ·rw [Below.heap_alloc _ _ _ (by simp;omega),Below.heap_alloc _ _ _ (by simp)];exact heap_alloc_new _ _
 ·rw [Below.heap_alloc _ _ _ (by simp)];have:=heap_alloc_new (w.alloc o1) o2;simpa using this
 ·have:=heap_alloc_new ((w.alloc o1).alloc o2) o3;simpa using this
theorem Yu1 (A bl:List Value) (z:Value) (hA:A.length=8) (hL:bl.length≤48):
 splice (splice (splice (List.replicate 64 z) 0 A) 8 bl) 56 A=A ++ bl ++ List.replicate (48 - bl.length) z ++ A:=by
 have e1:splice (List.replicate 64 z) 0 A=A ++ List.replicate 56 z:=by simp [splice,hA]
 have e2:splice (A ++ List.replicate 56 z) 8 bl=A ++ (bl ++ List.replicate (56 - bl.length) z):=by
  simp only [splice];rw [List.take_left' hA,List.drop_append,List.drop_eq_nil_of_le (by omega),hA,List.nil_append,List.drop_replicate];congr 3;omega
 have e3:A ++ (bl ++ List.replicate (56 - bl.length) z)=(A ++ bl ++ List.replicate (48 - bl.length) z) ++ List.replicate 8 z:=by
  rw [show 56 - bl.length=(48 - bl.length)+8 by omega,←List.replicate_append_replicate];simp only [List.append_assoc]
 have hl:(A ++ bl ++ List.replicate (48 - bl.length) z).length=56:=by simp [hA];omega
 rw [e1,e2,e3]
 simp only [splice]
 rw [List.take_left' hl,List.drop_eq_nil_of_le (by rw [List.length_append,hl,hA,List.length_replicate];omega)]
 simp [List.append_assoc]
theorem Ypi (S:List Value) (h:∀ u∈S,u.oneCell'=true):S.toArray.all (·.oneCell')=true:=by simpa using h
theorem Yu2 (a b:Int) (A:List Value) (hA:A.length=8) (hA1:∀ u∈A,u.oneCell'=true)
 (hby:∀ w,Calls prog 213 #[.agg #[.int .u32 a,.int .u32 b]] w fun e w'=>∃ v',e=.returned v'∧w'.ownsRow (w.heap.size+1) 5 1 v' 8 A∧Below w.heap.size w w')
 (w:World) (gb L cap:Nat) (bl:List Value) (hgb:gb<w.heap.size) (hL:bl.length=L) (hL':L≤48)
 (hbl:∀ j u,bl[j]? = some u→w.cell? ⟨gb,j,none⟩=some u) (h1:∀ u∈bl,u.oneCell'=true):
 Calls prog 167 #[.agg #[.int .u32 a,.int .u32 b],.slice (some ⟨gb,0,none⟩) L cap] w fun e w'=>
  e=.returned (.agg (A ++ bl ++ List.replicate (48 - L) (Value.int .u8 0) ++ A).toArray)∧Below w.heap.size w w':=by
 have tok1:True:=trivial
 have HA:=Yh hA
 have HL:=Yh hL
 clear hA hL
 have HBY:=Yh hby
 clear hby
 go_enter func167,ntmps167
 go_wp2
 have hst:=Ykx (w:=w) (o1:=.cells #[.int .u32 a,.int .u32 b] 168) (o2:=.cells (List.replicate 64 (Value.int .u8 0)).toArray 98) (o3:=.cells (List.replicate 64 (Value.int .u8 0)).toArray 98)
 change Code.wp _ _ _ _ (((w.alloc (.cells #[.int .u32 a,.int .u32 b] 168)).alloc (.cells (List.replicate 64 (Value.int .u8 0)).toArray 98)).alloc (.cells (List.replicate 64 (Value.int .u8 0)).toArray 98))
 revert hst
 generalize ((w.alloc (.cells #[.int .u32 a,.int .u32 b] 168)).alloc (.cells (List.replicate 64 (Value.int .u8 0)).toArray 98)).alloc (.cells (List.replicate 64 (Value.int .u8 0)).toArray 98)=w0
 rintro ⟨hB0,hs0,hh0,hh1,hh2⟩
 have c0:w0.cell? ⟨w.heap.size,0,none⟩=some (.int .u32 a):=Yaa hh0 rfl
 have c1:w0.cell? ⟨w.heap.size,1,none⟩=some (.int .u32 b):=Yaa hh0 rfl
 have HBL:=Yh hbl
 have HB0:=Yh hB0
 have HH0:=Yh hh0
 have HH1:=Yh hh1
 have HH2:=Yh hh2
 have HS0:=Yh hs0
 clear hbl hB0 hh0 hh1 hh2 hs0
 go_region_law (first
  | (
   refine step_copy_splice rfl (.tmp 6) (.tmp 8) 46 46 rfl 5 underlying46 sz5 (some ⟨w.heap.size+1+1,0,none⟩) (some ⟨g1,0,none⟩) 64 64 8 cap1 rfl rfl (w.heap.size+1+1) 0 _ 98 HH3.out A HA.out (fun _=>⟨rfl,⟨g1,0,none⟩,rfl,HSRC.out⟩) (by rw [HA.out];simp) hA1 (w.heap.size+1+1) w1 (Below.refl _ _) (Nat.le_refl _) ?_;intro w2 HH4 hB2;have HB2:Hid (Below (w.heap.size+1+1) w0 w2):=HB1.out.trans hB2;clear hB2)
  | (go_simp;go_wp2_with (first | (go_at_call 213;go_must (
   refine (HBY.out _).mono ?_;rintro e w1 ⟨v1,rfl,hown1,hb1⟩;obtain ⟨g1,cap1,cur1,rfl,hg1b,hg1h,hc1,hcur⟩:=Yhw hown1 (by omega);have HSRC:Hid (∀ j u,A[j]? = some u→w1.cell? ((⟨g1,0,none⟩:Addr).add j)=some u):=fun j u hu=>by rw [Yil];exact Yaa hg1h (hcur j u hu)
   have hB1':Below w0.heap.size w0 w1:=(Below.refl _ _).drew.trans hb1;have HB1:Hid (Below (w.heap.size+1+1) w0 w1):=hB1'.mono (by have:=HS0.out;omega);have HH3:Hid (w1.heap[w.heap.size+1+1]? = some (.cells (List.replicate 64 (Value.int .u8 0)).toArray 98)):=(hB1'.block (w.heap.size+1+1) (by have:=HS0.out;omega)).trans HH2.out;clear hown1 hb1 hg1b hg1h hcur hc1 hB1')))))
 have hgb2:gb<w2.heap.size:=by have:=HB2.out.size;have:=HS0.out;omega
 have hm:L=Nat.min L 56:=by simp [Nat.min_def];omega
 have HM:=Yh hm
 clear hm
 go_wp2_with (first | (have _t:=tok1;(
  refine wpList_copy_splice rfl (.tmp 10) (.tmp 11) 46 46 rfl 5 underlying46 sz5 (some ⟨w.heap.size+1+1,8,none⟩) (some ⟨gb,0,none⟩) 56 56 L cap rfl rfl (w.heap.size+1+1) 8 _ 98 HH4.out bl (HL.out.trans HM.out) (fun _=>⟨rfl,⟨gb,0,none⟩,rfl,?hsrc⟩) ?hfit h1 (w.heap.size+1+1) w0 HB2.out (Nat.le_refl _) ?_
  case hsrc=>intro j u hu;rw [Yil,HB2.out.cell (show gb<w.heap.size+1+1 by omega),HB0.out.cell hgb];exact HBL.out j u hu
  case hfit=>rw [length_splice _ _ _ (by rw [HA.out];simp)];have:=HL.out;simp;omega
  intro w3 HH5 hB3;have HB3:=Yh hB3;clear hB3 tok1)))
 have k0:w3.heap[w.heap.size]? = some (.cells #[.int .u32 a,.int .u32 b] 168):=(HB3.out.block _ (by omega)).trans HH0.out
 have d0:w3.cell? ⟨w.heap.size,0,none⟩=some (.int .u32 a):=Yaa k0 rfl
 have d1:w3.cell? ⟨w.heap.size,1,none⟩=some (.int .u32 b):=Yaa k0 rfl
 have HS3:Hid (w.heap.size+3≤w3.heap.size):=by have:=HB3.out.size;have:=HS0.out;show _≤_;omega
 have HLC:Hid ((splice (splice (List.replicate 64 (Value.int .u8 0)) 0 A) 8 bl).length=64):=by
  show _=_;rw [length_splice _ _ _ (by rw [length_splice _ _ _ (by rw [HA.out];simp)];have:=HL.out;simp;omega),length_splice _ _ _ (by rw [HA.out];simp)];simp
 clear k0 c0 c1
 go_region_law (first
  | (
   refine step_copy_splice rfl (.tmp 13) (.tmp 15) 46 46 rfl 5 underlying46 sz5 (some ⟨w.heap.size+1+1,56,none⟩) (some ⟨g4,0,none⟩) 8 8 8 cap4 rfl rfl (w.heap.size+1+1) 56 _ 98 HH6.out A HA.out (fun _=>⟨rfl,⟨g4,0,none⟩,rfl,HSRC4.out⟩) (by rw [HA.out,HLC.out];omega) hA1 (w.heap.size+1+1) w0 HB4.out (Nat.le_refl _) ?_;intro w5 HH7 hB5;have HB5:=Yh hB5;clear hB5)
  | (go_simp;go_wp2_with (first | (go_at_call 213;go_must (
   refine (HBY.out _).mono ?_;rintro e w4 ⟨v4,rfl,hown4,hb4⟩;obtain ⟨g4,cap4,cur4,rfl,hg4b,hg4h,hc4,hcur⟩:=Yhw hown4 (by omega);have HSRC4:Hid (∀ j u,A[j]? = some u→w4.cell? ((⟨g4,0,none⟩:Addr).add j)=some u):=fun j u hu=>by rw [Yil];exact Yaa hg4h (hcur j u hu)
   have hB4':Below w3.heap.size w3 w4:=(Below.refl _ _).drew.trans hb4;have HB4:Hid (Below (w.heap.size+1+1) w0 w4):=HB3.out.trans (hB4'.mono (by have:=HS3.out;omega));have HH6:Hid (w4.heap[w.heap.size+1+1]? = some (.cells (splice (splice (List.replicate 64 (Value.int .u8 0)) 0 A) 8 bl).toArray 98)):=(hB4'.block (w.heap.size+1+1) (by have:=HS3.out;omega)).trans HH5.out;clear hown4 hb4 hg4b hg4h hcur hc4 hB4')))))
 have HF:Hid (splice (splice (splice (List.replicate 64 (Value.int .u8 0)) 0 A) 8 bl) 56 A=A ++ bl ++ List.replicate (48 - L) (Value.int .u8 0) ++ A):=by
  have:=Yu1 A bl (.int .u8 0) HA.out (by have:=HL.out;omega);rw [HL.out] at this;exact this
 rw [HF.out] at HH7
 have HSL:Hid ((A ++ bl ++ List.replicate (48 - L) (Value.int .u8 0) ++ A).length=64):=by
  show _=_;simp only [List.length_append,List.length_replicate,HA.out,HL.out];omega
 have HS1:Hid (∀ u∈A ++ bl ++ List.replicate (48 - L) (Value.int .u8 0) ++ A,u.oneCell'=true):=by
  intro u hu;simp only [List.mem_append] at hu;rcases hu with ((h | h) | h) | h
  ·exact hA1 u h
  ·exact h1 u h
  ·rw [List.eq_of_mem_replicate h];rfl
  ·exact hA1 u h
 have K1:Hid (w5.heap[w.heap.size+1]? = some (.cells (List.replicate 64 (Value.int .u8 0)).toArray 98)):=(HB5.out.block _ (by omega)).trans HH1.out
 have HBF:Hid (Below w.heap.size w w5):=HB0.out.trans (HB5.out.mono (by omega))
 clear HF HBL
 obtain ⟨S,hS⟩:∃ S,A ++ bl ++ List.replicate (48 - L) (Value.int .u8 0) ++ A=S:=⟨_,rfl⟩
 rw [hS] at HH7 HSL HS1
 have HSS:=Yh hS
 clear hS
 go_wp2_with (first
  | (
   refine wpList_load_row rfl 98 (.tmp 5) rfl (w.heap.size+1+1) rfl 98 _ (0,0) _ HH7.out underlying98 rfl ?hi1 ?_
   case hi1=>rw [List.size_toArray,HSL.out];kernel_rfl)
  | (
   refine wpList_store_row rfl 98 (.tmp 4) (.tmp 17) rfl (w.heap.size+1) S.toArray rfl rfl 98 _ K1.out ?hi2 ?ho ?h1 ?_;go_must (
    case hi2=>rw [List.size_toArray,HSL.out];kernel_rfl
    case ho=>rw [List.size_toArray,List.size_toArray,HSL.out];rfl
    case h1=>exact Ypi _ HS1.out)))
 refine bodyPost_ret (v:=.agg S.toArray) ?_ rfl ⟨by rw [HSS.out],?_⟩
 ·exact results_cell_row Tryz.results167 _ _ (w.heap.size+1) 98 S.toArray (0,0) _ rfl (setRow_heap _ _ _ _ _ _ K1.out) underlying98 rfl (by rw [List.size_toArray,HSL.out];kernel_rfl)
 ·exact below_setRow HBF.out (by omega) _
theorem Yu3 (a b:Int) (w:World) (ha:0≤a) (ha':a<4294967296) (hb:0≤b) (hb':b<4294967296) (gb L cap:Nat) (bl:List Value) (hgb:gb<w.heap.size) (hL:bl.length=L) (hL':L≤48)
 (hbl:∀ j u,bl[j]? = some u→w.cell? ⟨gb,j,none⟩=some u) (h1:∀ u∈bl,u.oneCell'=true):
 Calls prog 167 #[.agg #[.int .u32 a,.int .u32 b],.slice (some ⟨gb,0,none⟩) L cap] w fun e w'=>
  e=.returned (.agg ((be a 4 ++ be b 4) ++ bl ++ List.replicate (48 - L) (Value.int .u8 0) ++ (be a 4 ++ be b 4)).toArray)∧Below w.heap.size w w':=
 Yu2 a b _ (by simp [Yeq]) (Yu0 a b) (fun w=>Yuz a b w ha ha' hb hb') w gb L cap bl hgb hL hL' hbl h1
structure Yac where
 (kind tx prev next:Int)
 (key:ByteArray)
 (oldIs:Bool)
 (old:ByteArray)
 (newIs:Bool)
 (new:ByteArray)
def Yac.cells (e:Yac):Array Value:=#[.int .i64 e.kind,.int .i64 e.tx,.int .i64 e.prev,.int .i64 e.next,.string e.key,.bool e.oldIs,.string e.old,.bool e.newIs,.string e.new]
structure Yac.Fits (e:Yac):Prop where
 kind:0≤e.kind∧e.kind<256
 tx:0≤e.tx∧e.tx<256
 prev:0≤e.prev∧e.prev<65536
 next:0≤e.next∧e.next<65536
 key:e.key.size≤8
 old:e.old.size≤12
 new:e.new.size≤12
def Yac.body (e:Yac):List Value:=be e.kind 1 ++ be e.tx 1 ++ be e.prev 2 ++ be e.next 2 ++ Ya1 e.key 8 ++ Yb7 e.oldIs e.old ++ Yb7 e.newIs e.new
theorem Ypj (s:ByteArray):∀ u∈Lib.strCells s,u.oneCell'=true:=Lib.strCells_oneCell s
theorem Ymi (n:Nat) (k:Int):∀ u∈List.replicate n (Value.int .u8 k),u.oneCell'=true:=fun u hu=>by rw [List.eq_of_mem_replicate hu];rfl
theorem Ypk (s:ByteArray) (r:Nat):∀ u∈Ya1 s r,u.oneCell'=true:=by
 intro u hu;simp only [Ya1,List.mem_append,List.mem_singleton] at hu;rcases hu with (h | h) | h
 ·rw [h];rfl
 ·exact Ypj s u h
 ·exact Ymi _ _ u h
theorem Ypl (b:Bool) (s:ByteArray):∀ u∈Yb7 b s,u.oneCell'=true:=by
 intro u hu;simp only [Yb7,List.mem_append,List.mem_singleton] at hu;rcases hu with (h | h) | h
 ·rw [h];rfl
 ·exact Ypj s u h
 ·exact Ymi _ _ u h
theorem Yky (s:ByteArray) (r:Nat) (h:s.size≤r):(Ya1 s r).length=1+r:=by simp [Ya1,Lib.strCells_length];omega
theorem Ymj (b:Bool) (s:ByteArray) (h:s.size≤12):(Yb7 b s).length=13:=by simp [Yb7,Lib.strCells_length];omega
theorem Yac.body_length (e:Yac) (h:e.Fits):e.body.length=41:=by
 simp only [Yac.body,List.length_append,Yeq,Yky _ _ h.key,Ymj _ _ h.old,Ymj _ _ h.new]
theorem Yac.body_one (e:Yac):∀ u∈e.body,u.oneCell'=true:=by
 intro u hu;simp only [Yac.body,List.mem_append] at hu;rcases hu with (((((h | h) | h) | h) | h) | h) | h
 ·exact Ye3 _ _ u h
 ·exact Ye3 _ _ u h
 ·exact Ye3 _ _ u h
 ·exact Ye3 _ _ u h
 ·exact Ypk _ _ u h
 ·exact Ypl _ _ u h
 ·exact Ypl _ _ u h
def Yam (a b:Int) (bl:List Value):List Value:=(be a 4 ++ be b 4) ++ bl ++ List.replicate (48 - bl.length) (Value.int .u8 0) ++ (be a 4 ++ be b 4)
theorem Yeh (a b:Int) (bl:List Value) (h:bl.length≤48):(Yam a b bl).length=64:=by
 simp only [Yam,List.length_append,List.length_replicate,Yeq];omega
theorem Yfy (a b:Int) (bl:List Value) (h:∀ u∈bl,u.oneCell'=true):∀ u∈Yam a b bl,u.oneCell'=true:=by
 intro u hu;simp only [Yam,List.mem_append] at hu;rcases hu with (((h1 | h1) | h1) | h1) | (h1 | h1)
 ·exact Ye3 _ _ u h1
 ·exact Ye3 _ _ u h1
 ·exact h u h1
 ·exact Ymi _ _ u h1
 ·exact Ye3 _ _ u h1
 ·exact Ye3 _ _ u h1
theorem Ykz (a b:Int) (w:World) (ha:0≤a) (ha':a<4294967296) (hb:0≤b) (hb':b<4294967296) (gb L cap:Nat) (bl:List Value) (hgb:gb<w.heap.size) (hL:bl.length=L) (hL':L≤48)
 (hbl:∀ j u,bl[j]? = some u→w.cell? ⟨gb,j,none⟩=some u) (h1:∀ u∈bl,u.oneCell'=true):
 Calls prog 167 #[.agg #[.int .u32 a,.int .u32 b],.slice (some ⟨gb,0,none⟩) L cap] w fun e w'=>
  ∃ S:List Value,e=.returned (.agg S.toArray)∧Hid (S=Yam a b bl)∧Hid (S.length=64)∧Hid (∀ u∈S,u.oneCell'=true)∧Below w.heap.size w w':=by
 refine (Yu3 a b w ha ha' hb hb' gb L cap bl hgb hL hL' hbl h1).mono ?_
 rintro e w' ⟨rfl,hb⟩
 exact ⟨Yam a b bl,by rw [Yam,hL],rfl,Yeh a b bl (by omega),Yfy a b bl h1,hb⟩
theorem Yu4 (a b:Int) (e:Yac) (w:World) (ha:0≤a) (ha':a<4294967296) (hb:0≤b) (hb':b<4294967296) (he:e.Fits):
 Calls prog 296 #[.agg #[.int .u32 a,.int .u32 b],.agg e.cells] w fun r w'=>r=.returned (.agg (Yam a b e.body).toArray)∧Below w.heap.size w w':=by
 obtain ⟨kind,tx,prev,next,key,oldIs,old,newIs,new⟩:=e
 obtain ⟨hk,ht,hp,hn,hkey,hold,hnew⟩:=he
 have BL:=Yac.body_length ⟨kind,tx,prev,next,key,oldIs,old,newIs,new⟩ ⟨hk,ht,hp,hn,hkey,hold,hnew⟩
 have HBL:Hid _:=Yh BL
 clear BL
 simp only at hk ht hp hn hkey hold hnew
 have tok1:True:=trivial
 have tok2:True:=trivial
 have tok3:True:=trivial
 have tok4:True:=trivial
 have tok5:True:=trivial
 have tok6:True:=trivial
 have tok7:True:=trivial
 have hst:=Ykx (w:=w) (o1:=.cells #[.int .u32 a,.int .u32 b] 168) (o2:=.cells #[.int .i64 kind,.int .i64 tx,.int .i64 prev,.int .i64 next,.string key,.bool oldIs,.string old,.bool newIs,.string new] 152) (o3:=.cells (List.replicate 64 (Value.int .u8 0)).toArray 98)
 have HST:=Yh hst
 clear hst
 simp only [Yac.cells]
 go_enter func296,ntmps296
 go_wp2_with fail
 change Calls _ _ _ (((w.alloc (.cells #[.int .u32 a,.int .u32 b] 168)).alloc (.cells #[.int .i64 kind,.int .i64 tx,.int .i64 prev,.int .i64 next,.string key,.bool oldIs,.string old,.bool newIs,.string new] 152)).alloc (.cells (List.replicate 64 (Value.int .u8 0)).toArray 98)) _
 revert HST
 generalize ((w.alloc (.cells #[.int .u32 a,.int .u32 b] 168)).alloc (.cells #[.int .i64 kind,.int .i64 tx,.int .i64 prev,.int .i64 next,.string key,.bool oldIs,.string old,.bool newIs,.string new] 152)).alloc (.cells (List.replicate 64 (Value.int .u8 0)).toArray 98)=w0
 intro HST
 obtain ⟨hB0,hs0,hh0,hh1,hh2⟩:=HST.out
 have HB0:=Yh hB0
 have HH0:=Yh hh0
 have HH1:=Yh hh1
 have HH2:=Yh hh2
 have HS0:=Yh hs0
 clear hB0 hh0 hh1 hh2 hs0 HST
 refine (Yg6 (w.heap.size+3) _ 0 [] kind 1 _ (World.ownsRow_nil _ _ _ _) (by have:=HS0.out;omega) (by omega) hk.1 (by omega) (by omega)).mono ?_
 rintro r w1 ⟨v1,rfl,hown,hg⟩
 have HO1:=Yh hown
 have HB1:Hid (Below (w.heap.size+3) w0 w1):=hg.below (World.ownsRow_nil _ (w.heap.size+3) 5 1) (Nat.le_refl _) (by have:=HS0.out;omega)
 have HS1:Hid (w.heap.size+3≤w1.heap.size):=by have:=HB1.out.size;have:=HS0.out;show _≤_;omega
 have q1_1:w1.cell? ⟨w.heap.size+1,1,none⟩=some (.int .i64 tx):=(HB1.out.cell (by simp)).trans (Yaa HH1.out rfl)
 clear tok1 hown hg
 go_wp2_with (first
  | (go_at_call 169;have _t:=tok2;go_must (
   refine (Yg6 (w.heap.size+3) _ 1 (be kind 1) tx 1 _ HO1.out (by have:=HS1.out;omega) (by omega) ht.1 (by omega) (by omega)).mono ?_;rintro r w2 ⟨v2,rfl,hown,hg⟩;have HO2:=Yh hown;have HB2:Hid (Below (w.heap.size+3) w0 w2):=HB1.out.trans (hg.below HO1.out (Nat.le_refl _) (by have:=HS1.out;omega));have HS2:Hid (w.heap.size+3≤w2.heap.size):=by have:=HB2.out.size;have:=HS0.out;show _≤_;omega
   have q2_2:w2.cell? ⟨w.heap.size+1,2,none⟩=some (.int .i64 prev):=(HB2.out.cell (by simp)).trans (Yaa HH1.out rfl);clear tok2 hown hg HO1 HB1 HS1 q1_1))
  | (go_at_call 169;have _t:=tok3;go_must (
   refine (Yg6 (w.heap.size+3) _ 2 (be kind 1 ++ be tx 1) prev 2 _ HO2.out (by have:=HS2.out;omega) (by omega) hp.1 (by omega) (by omega)).mono ?_;rintro r w3 ⟨v3,rfl,hown,hg⟩;have HO3:=Yh hown;have HB3:Hid (Below (w.heap.size+3) w0 w3):=HB2.out.trans (hg.below HO2.out (Nat.le_refl _) (by have:=HS2.out;omega));have HS3:Hid (w.heap.size+3≤w3.heap.size):=by have:=HB3.out.size;have:=HS0.out;show _≤_;omega
   have q3_3:w3.cell? ⟨w.heap.size+1,3,none⟩=some (.int .i64 next):=(HB3.out.cell (by simp)).trans (Yaa HH1.out rfl);clear tok3 hown hg HO2 HB2 HS2 q2_2))
  | (go_at_call 169;have _t:=tok4;go_must (
   refine (Yg6 (w.heap.size+3) _ 4 (be kind 1 ++ be tx 1 ++ be prev 2) next 2 _ HO3.out (by have:=HS3.out;omega) (by omega) hn.1 (by omega) (by omega)).mono ?_;rintro r w4 ⟨v4,rfl,hown,hg⟩;have HO4:=Yh hown;have HB4:Hid (Below (w.heap.size+3) w0 w4):=HB3.out.trans (hg.below HO3.out (Nat.le_refl _) (by have:=HS3.out;omega));have HS4:Hid (w.heap.size+3≤w4.heap.size):=by have:=HB4.out.size;have:=HS0.out;show _≤_;omega
   have q4_4:w4.cell? ⟨w.heap.size+1,4,none⟩=some (.string key):=(HB4.out.cell (by simp)).trans (Yaa HH1.out rfl);clear tok4 hown hg HO3 HB3 HS3 q3_3))
  | (go_at_call 211;have _t:=tok5;go_must (
   refine (Yik (w.heap.size+3) _ 6 (be kind 1 ++ be tx 1 ++ be prev 2 ++ be next 2) key 8 _ HO4.out (by have:=HS4.out;omega) (by omega) hkey (by omega)).mono ?_;rintro r w5 ⟨v5,rfl,hown,hg⟩;have HO5:=Yh hown;have HB5:Hid (Below (w.heap.size+3) w0 w5):=HB4.out.trans (hg.below HO4.out (Nat.le_refl _) (by have:=HS4.out;omega));have HS5:Hid (w.heap.size+3≤w5.heap.size):=by have:=HB5.out.size;have:=HS0.out;show _≤_;omega
   have q5_5:w5.cell? ⟨w.heap.size+1,5,none⟩=some (.bool oldIs):=(HB5.out.cell (by simp)).trans (Yaa HH1.out rfl);have q5_6:w5.cell? ⟨w.heap.size+1,6,none⟩=some (.string old):=(HB5.out.cell (by simp)).trans (Yaa HH1.out rfl);clear tok5 hown hg HO4 HB4 HS4 q4_4))
  | (go_at_call 298;have _t:=tok6;go_must (
   refine (Yph (w.heap.size+3) _ 15 (be kind 1 ++ be tx 1 ++ be prev 2 ++ be next 2 ++ Ya1 key 8) oldIs old _ HO5.out (by have:=HS5.out;omega) (by omega) hold).mono ?_;rintro r w6 ⟨v6,rfl,hown,hg⟩;have HO6:=Yh hown;have HB6:Hid (Below (w.heap.size+3) w0 w6):=HB5.out.trans (hg.below HO5.out (Nat.le_refl _) (by have:=HS5.out;omega));have HS6:Hid (w.heap.size+3≤w6.heap.size):=by have:=HB6.out.size;have:=HS0.out;show _≤_;omega
   have q6_7:w6.cell? ⟨w.heap.size+1,7,none⟩=some (.bool newIs):=(HB6.out.cell (by simp)).trans (Yaa HH1.out rfl);have q6_8:w6.cell? ⟨w.heap.size+1,8,none⟩=some (.string new):=(HB6.out.cell (by simp)).trans (Yaa HH1.out rfl);clear tok6 hown hg HO5 HB5 HS5 q5_5 q5_6))
  | (go_at_call 298;have _t:=tok7;go_must (
   refine (Yph (w.heap.size+3) _ 28 (be kind 1 ++ be tx 1 ++ be prev 2 ++ be next 2 ++ Ya1 key 8 ++ Yb7 oldIs old) newIs new _ HO6.out (by have:=HS6.out;omega) (by omega) hnew).mono ?_;rintro r w7 ⟨v7,rfl,hown,hg⟩;have HO7:=Yh hown;have HB7:Hid (Below (w.heap.size+3) w0 w7):=HB6.out.trans (hg.below HO6.out (Nat.le_refl _) (by have:=HS6.out;omega));have HS7:Hid (w.heap.size+3≤w7.heap.size):=by have:=HB7.out.size;have:=HS0.out;show _≤_;omega
   have q0:w7.cell? ⟨w.heap.size,0,none⟩=some (.int .u32 a):=(HB7.out.cell (by simp)).trans (Yaa HH0.out rfl);have q1:w7.cell? ⟨w.heap.size,1,none⟩=some (.int .u32 b):=(HB7.out.cell (by simp)).trans (Yaa HH0.out rfl);obtain ⟨g7,cap7,cur7,rfl,hg7b,hg7h,hc7,hcur⟩:=Yhw HO7.out (by omega);have HG7:=Yh hg7h;have HC7:=Yh hcur;clear hg7b hg7h hc7 hcur;clear tok7 hown hg HO6 HB6 HS6 q6_7 q6_8))
  | (go_at_call 167;go_must (
   refine (Ykz a b _ ha ha' hb hb' g7 41 cap7 (be kind 1 ++ be tx 1 ++ be prev 2 ++ be next 2 ++ Ya1 key 8 ++ Yb7 oldIs old ++ Yb7 newIs new) (Yaj HG7.out) HBL.out (by omega) (fun j u hu=>Yaa HG7.out (HC7.out j u hu)) (Yac.body_one ⟨kind,tx,prev,next,key,oldIs,old,newIs,new⟩)).mono ?_;rintro r w8 ⟨S,rfl,HSS,HSL,HS1,hb8⟩;have K1:Hid (w8.heap[w.heap.size+1+1]? = some (.cells (List.replicate 64 (Value.int .u8 0)).toArray 98)):=((HB7.out.trans (hb8.mono HS7.out)).block _ (by omega)).trans HH2.out;have HB8:Hid (Below (w.heap.size+3) w0 w8):=HB7.out.trans (hb8.mono HS7.out);clear hb8 HB7 HS7 HG7 HC7 q0 q1))
  | (
   refine wpList_store_row rfl 98 (.tmp 4) (.tmp 35) rfl (w.heap.size+1+1) S.toArray rfl rfl 98 _ K1.out ?hi2 ?ho ?h1 ?_;go_must (
    case hi2=>rw [List.size_toArray,HSL.out];kernel_rfl
    case ho=>rw [List.size_toArray,List.size_toArray,HSL.out];rfl
    case h1=>exact Ypi _ HS1.out)))
 refine bodyPost_ret (v:=.agg S.toArray) ?_ rfl ⟨by rw [HSS.out];rfl,?_⟩
 ·exact results_cell_row Tryz.results296 _ _ (w.heap.size+1+1) 98 S.toArray (0,0) _ rfl (setRow_heap _ _ _ _ _ _ K1.out) underlying98 rfl (by rw [List.size_toArray,HSL.out];kernel_rfl)
 ·exact below_setRow (HB0.out.trans (HB8.out.mono (by omega))) (by omega) _
def Ybf (l:List Yac):List Value:=l.flatMap fun e=>e.cells.toList
theorem Yk0:(prog.info? 152).map (fun i=>(i.zero,i.size,i.bytes))=some (some (.agg #[.int .i64 0,.int .i64 0,.int .i64 0,.int .i64 0,.string ByteArray.empty,.bool false,.string ByteArray.empty,.bool false,.string ByteArray.empty]),9,96):=by kernel_rfl
def Ydm (w:World) (rb:Nat) (ad:Option Addr) (len cap:Nat) (bad:Bool):Prop:=w.heap[rb]? = some (.cells #[.slice ad len cap,.bool bad] 243 (0,0))
theorem Ypm (rb gb off len cap n:Nat) (bad:Bool) (w:World) (hr:Ydm w rb (some ⟨gb,off,none⟩) len cap bad) (hn:n≤len) (hl:len≤cap) (hc:cap≤1000):
 Calls prog 201 #[.pointer (some ⟨rb,0,none⟩),.int .i64 n] w fun e w'=>e=.returned (.slice (some ⟨gb,off,none⟩) n cap)∧∃ ad,(n<cap→ad=some ⟨gb,off+n,none⟩) ∧
  Ydm w' rb ad (len - n) (cap - n) bad∧(∀ k,k≠rb→w'.heap[k]? = w.heap[k]?)∧w'.heap.size=w.heap.size∧Below 0 w w':=by
 have c0:w.cell? ⟨rb,0,none⟩=some (.slice (some ⟨gb,off,none⟩) len cap):=Yaa hr rfl
 have f0:=Yah 0 hr
 have HR:Hid (∀ u,Ydm (w.setCell ⟨rb,0,none⟩ (.slice u (len - n) (cap - n))) rb u (len - n) (cap - n) bad):=fun u=>Yak w rb 0 _ _ _ hr
 have HO:Hid (∀ u k,k≠rb→(w.setCell ⟨rb,0,none⟩ u).heap[k]? = w.heap[k]?):=fun u k hk=>Below.heap_setCell _ _ _ _ hk
 have hsz:∀ u,(w.setCell ⟨rb,0,none⟩ u).heap.size=w.heap.size:=fun u=>by simp [World.setCell]
 have HZ:=Yh hsz
 have HB:Hid (∀ u,Below 0 w (w.setCell ⟨rb,0,none⟩ u)):=fun u=>⟨rfl,rfl,rfl,by rw [hsz u];exact Nat.le_refl _,fun k hk=>by omega⟩
 clear hr hsz
 by_cases hcn:cap=n
 ·subst hcn
  go_enter func201,ntmps201;go_wp2;go_ret;have h0:=HR.out (some ⟨gb,off,none⟩);obtain rfl:len=cap:=by omega
  simp only [Nat.sub_self] at h0 ⊢;exact ⟨rfl,some ⟨gb,off,none⟩,fun h=>absurd h (by omega),h0,HO.out _,HZ.out _,HB.out _⟩
 ·go_enter func201,ntmps201
  go_wp2;go_ret;exact ⟨rfl,some ⟨gb,off+n,none⟩,fun _=>rfl,HR.out _,HO.out _,HZ.out _,HB.out _⟩
def Ybk (l:List Int):Int:=l.foldl (fun n b=>n*256+b) 0
theorem Yu5 (l:List Int) (b:Int):Ybk (l ++ [b])=Ybk l*256+b:=by simp [Ybk,List.foldl_append]
theorem Yu6 (l:List Int) (h:∀ b∈l,0≤b∧b<256) (hl:l.length≤3):0≤Ybk l∧Ybk l<16777216:=by
 match l,hl with
 | [],_=>simp [Ybk]
 | [a],_=>have:=h a (by simp);simp [Ybk];omega
 | [a,b],_=>have:=h a (by simp);have:=h b (by simp);simp [Ybk];omega
 | [a,b,c],_=>have:=h a (by simp);have:=h b (by simp);have:=h c (by simp);simp [Ybk];omega
theorem Yu7 (a b:Nat) (ha:a<4294967296) (hb:b<4294967296):bits .or .i64 (a:Int) (b:Int)=((a ||| b:Nat):Int):=by
 have hx:a ||| b<2 ^ 32:=Nat.or_lt_two_pow (by omega) (by omega)
 show IntKind.i64.wrap ((BitVec.ofInt 64 (a:Int) ||| BitVec.ofInt 64 (b:Int)).toNat:Int)=_;rw [BitVec.toNat_or,BitVec.toNat_ofInt,BitVec.toNat_ofInt,IntKind.wrap_i64];have e1:((a:Int) % ((2 ^ 64:Nat):Int)).toNat=a:=by omega
 have e2:((b:Int) % ((2 ^ 64:Nat):Int)).toNat=b:=by omega
 rw [e1,e2];omega
theorem Yu8 (q b:Int) (h1:0≤q) (h2:q<16777216) (h3:0≤b) (h4:b<256):bits .or .i64 (wrap64 (q*256)) b=q*256+b:=by
 obtain ⟨n,rfl⟩:=Int.eq_ofNat_of_zero_le h1;obtain ⟨m,rfl⟩:=Int.eq_ofNat_of_zero_le h3;have e1:wrap64 ((n:Int)*256)=((n*256:Nat):Int):=by unfold wrap64;omega
 rw [e1,Yu7 _ _ (by omega) (by omega)];have:=Nat.two_pow_add_eq_or_of_lt (i:=8) (b:=m) (by omega) n;rw [show n*256=2 ^ 8*n by omega,←this];omega
theorem Yg7 (rb gb off len cap size:Nat) (bad:Bool) (bs:List Int) (w:World) (hr:Ydm w rb (some ⟨gb,off,none⟩) len cap bad) (hn:size≤len) (hl:len≤cap) (hc:cap≤1000) (hg:gb≠rb)
 (hbl:bs.length=size) (hb:∀ j b,bs[j]? = some b→w.cell? ⟨gb,off+j,none⟩=some (.int .u8 b)∧0≤b∧b<256) (h4:size≤4):
 Calls prog 152 #[.pointer (some ⟨rb,0,none⟩),.int .i64 size] w fun e w'=>e=.returned (.int .i64 (Ybk bs))∧∃ ad,(size<cap→ad=some ⟨gb,off+size,none⟩) ∧
  Ydm w' rb ad (len - size) (cap - size) bad∧(∀ k,k≠rb→w'.heap[k]? = w.heap[k]?)∧w'.heap.size=w.heap.size∧Below 0 w w':=by
 have HBS:=Yh hb
 have KT:=Ypm rb gb off len cap size bad w hr hn hl hc
 clear hb hr
 go_enter func152,ntmps152
 go_wp2_with (first | (go_at_call 201;go_must (refine KT.mono ?_;rintro e w1 ⟨rfl,ad,had,hr1,ho1,hz1,hb1⟩)))
 have HFIN:Hid (∃ ad,(size<cap→ad=some ⟨gb,off+size,none⟩)∧Ydm w1 rb ad (len - size) (cap - size) bad∧(∀ k,k≠rb→w1.heap[k]? = w.heap[k]?)∧w1.heap.size=w.heap.size∧Below 0 w w1):=⟨ad,had,hr1,ho1,hz1,hb1⟩
 have HC:Hid (∀ j b,bs[j]? = some b→w1.cell? ⟨gb,off+j,none⟩=some (.int .u8 b)∧0≤b∧b<256):=fun j b h=>⟨(World.cell?_of_block (ho1 gb hg)).trans (HBS.out j b h).1,(HBS.out j b h).2⟩
 clear had hr1 ho1 hz1 hb1 KT
 go_loop [5,12] (fun n i=>∃ k:Nat,k≤size∧i=.int .i64 k∧n=.int .i64 (Ybk (bs.take k))) (fun _ i=>size - (intOf i).toNat)
 case atStart=>exact ⟨0,by omega,rfl,rfl⟩
 case round=>
  obtain ⟨k,hk,rfl,rfl⟩:=hrel;by_cases hlt:k<size
  ·obtain ⟨hcb,hb0,hb1⟩:=HC.out k bs[k] (List.getElem?_eq_getElem (by omega))
   generalize hbk:bs[k]=bb at hcb hb0 hb1;have HBK:=Yh hbk;clear hbk;have hlt':(k:Int)<(size:Int):=by omega
   generalize hq:Ybk (bs.take k)=q;go_wp2;have hbd:=Yu6 (bs.take k) (fun b hb=>by obtain ⟨j,hj⟩:=List.getElem?_of_mem (List.mem_of_mem_take hb);exact (HC.out j b hj).2) (by simp;omega);refine ⟨⟨k+1,by omega,by go_num,?_⟩,by simp [intOf];omega⟩;rw [←hq,Yu8 _ _ hbd.1 hbd.2 hb0 hb1,List.take_succ_eq_append_getElem (by omega),Yu5,HBK.out]
  ·go_wp2
   go_ret;refine ⟨?_,HFIN.out⟩;have hks:bs.take k=bs:=List.take_of_length_le (by omega);show Ending.returned (.int .i64 (Ybk (bs.take k)))=_;rw [hks]
theorem Yu9 (n:Int) (bs:List Int) (k:Nat) (hn:0≤n) (hk:k≤4) (hlt:n<2 ^ (8*k)) (h:bs.map (Value.int .u8)=be n k):Ybk bs=n:=by
 match k,hk,bs with
 | 0,_,[]=>simp [Ybk];simp at hlt;omega
 | 1,_,[a]=>simp [be] at h;simp [Ybk];simp at hlt;omega
 | 2,_,[a,b]=>simp [be] at h;simp [Ybk];simp at hlt;omega
 | 3,_,[a,b,c]=>simp [be] at h;simp [Ybk];simp at hlt;omega
 | 4,_,[a,b,c,d]=>simp [be] at h;simp [Ybk];simp at hlt;omega
 | 0,_,_ :: _=>simp [be] at h
 | 1,_,[]=>simp [be] at h
 | 1,_,_ :: _ :: _=>simp [be] at h
 | 2,_,[]=>simp [be] at h
 | 2,_,[_]=>simp [be] at h
 | 2,_,_ :: _ :: _ :: _=>simp [be] at h
 | 3,_,[]=>simp [be] at h
 | 3,_,[_]=>simp [be] at h
 | 3,_,[_,_]=>simp [be] at h
 | 3,_,_ :: _ :: _ :: _ :: _=>simp [be] at h
 | 4,_,[]=>simp [be] at h
 | 4,_,[_]=>simp [be] at h
 | 4,_,[_,_]=>simp [be] at h
 | 4,_,[_,_,_]=>simp [be] at h
 | 4,_,_ :: _ :: _ :: _ :: _ :: _=>simp [be] at h
def beI (n:Int):Nat→List Int
 | 0=>[]
 | k+1=>(n / 2 ^ (8*k) % 256) :: beI n k
theorem Ymk (n:Int) (k:Nat):(beI n k).map (Value.int .u8)=be n k:=by induction k <;> simp_all [be,beI]
theorem Yim (n:Int) (k:Nat):(beI n k).length=k:=by induction k <;> simp_all [beI]
theorem Yju (n:Int) (k:Nat):∀ b∈beI n k,0≤b∧b<256:=by
 induction k with
 | zero=>simp [beI]
 | succ k ih=>
  intro b hb;simp only [beI,List.mem_cons] at hb;rcases hb with rfl | hb
  ·omega
  ·exact ih b hb
theorem Yin (n:Int) (k:Nat) (hn:0≤n) (hk:k≤4) (hlt:n<2 ^ (8*k)):Ybk (beI n k)=n:=Yu9 n _ k hn hk hlt (Ymk n k)
theorem Ypn (l:List Int) (h:∀ b∈l,0≤b∧b<256) (hl:l.length=4):0≤Ybk l∧Ybk l<4294967296:=by
 match l,hl with
 | [a,b,c,d],_=>have:=h a (by simp);have:=h b (by simp);have:=h c (by simp);have:=h d (by simp);simp [Ybk];omega
def Yd7 (w:World) (gb off:Nat) (bs:List Int):Prop:=∀ j b,bs[j]? = some b→w.cell? ⟨gb,off+j,none⟩=some (.int .u8 b)∧0≤b∧b<256
theorem Yd7.later (h:Yd7 w gb off bs) (hb:w'.heap[gb]? = w.heap[gb]?):Yd7 w' gb off bs:=
 fun j b hj=>⟨(World.cell?_of_block hb).trans (h j b hj).1,(h j b hj).2⟩
theorem Yd7.range (h:Yd7 w gb off bs):∀ b∈bs,0≤b∧b<256:=fun b hb=>by
 obtain ⟨j,hj⟩:=List.getElem?_of_mem hb;exact (h j b hj).2
theorem Ypo (gb off cap:Nat) (al bs:List Int) (w:World) (hgb:gb<w.heap.size) (hc:8≤cap) (hc':cap≤1000) (ha:Yd7 w gb off al) (hb:Yd7 w gb (off+4) bs) (hal:al.length=4) (hbl:bs.length=4):
 Calls prog 212 #[.slice (some ⟨gb,off,none⟩) 8 cap] w fun e w'=>e=.returned (.agg #[.int .u32 (Ybk al),.int .u32 (Ybk bs)])∧Below w.heap.size w w':=by
 obtain ⟨a0,a1⟩:=Ypn al ha.range hal
 obtain ⟨b0,b1⟩:=Ypn bs hb.range hbl
 have tok1:True:=trivial
 have HA:=Yh ha
 have HB:=Yh hb
 have HAL:=Yh hal
 have HBL:=Yh hbl
 obtain ⟨qa,hqa⟩:∃ q,Ybk al=q:=⟨_,rfl⟩
 obtain ⟨qb,hqb⟩:∃ q,Ybk bs=q:=⟨_,rfl⟩
 rw [hqa] at a0 a1 ⊢
 rw [hqb] at b0 b1 ⊢
 have HQA:=Yh hqa
 have HQB:=Yh hqb
 clear ha hb hal hbl hqa hqb
 go_enter func212,ntmps212
 go_wp2_with (first
  | (go_at_call 152;have _t:=tok1;go_must (
   refine (Yg7 (w.heap.size+1) gb off 8 cap 4 false al _ ?hr (by omega) hc hc' (by omega) HAL.out ?hb (by omega)).mono ?_
   case hr=>exact heap_alloc2_new w _ _
   case hb=>exact HA.out.later (by rw [Below.heap_alloc _ _ _ (by simp;omega),Below.heap_alloc _ _ _ hgb])
   rintro e w1 ⟨rfl,ad,had,hr1,ho1,hz1,hb1⟩;obtain rfl:=had (by omega);have hgw:w1.heap[gb]? = w.heap[gb]?:=by rw [ho1 gb (by omega),Below.heap_alloc _ _ _ (by simp;omega),Below.heap_alloc _ _ _ hgb]
   have HR1:=Yh hr1;have HB1:Hid (Yd7 w1 gb (off+4) bs):=HB.out.later hgw;have HO1:=Yh ho1;have HZ1:Hid (w1.heap.size=w.heap.size+2):=by rw [Hid,hz1];simp
   have HK1:Hid (Below 0 w w1):=(((Below.refl 0 w).alloc (by omega) _).alloc (by omega) _).trans hb1;rw [HQA.out];clear tok1 hgw hr1 ho1 hz1 hb1 had HA HB))
  | (go_at_call 152;go_must (
   refine (Yg7 (w.heap.size+1) gb (off+4) (8 - 4) (cap - 4) 4 false bs _ HR1.out (by omega) (by omega) (by omega) (by omega) HBL.out HB1.out (by omega)).mono ?_;rintro e w2 ⟨rfl,ad2,had2,hr2,ho2,hz2,hb2⟩;have HO2:Hid (∀ k,k≠w.heap.size+1→w2.heap[k]? = ((w.alloc (.cells #[.int .u32 0,.int .u32 0] 168)).alloc (.cells #[.slice (some ⟨gb,off,none⟩) 8 cap,.bool false] 243)).heap[k]?):=fun k hk=>(ho2 k hk).trans (HO1.out k hk)
   have HK2:Hid (Below 0 w w2):=HK1.out.trans hb2;have HZ2:Hid (w2.heap.size=w.heap.size+2):=hz2.trans HZ1.out;have hc2:w2.heap[w.heap.size]? = some (.cells #[.int .u32 0,.int .u32 0] 168 (0,0)):=(HO2.out _ (by omega)).trans (heap_alloc2_old w _ _);have f0:=Yah 0 hc2;have f1:=Yah 1 hc2;have g0:=Yaa (j:=0) hc2 rfl;have g1:=Yaa (j:=1) hc2 rfl;rw [HQB.out];have HC2:=Yh hc2;clear had2 hr2 ho2 hz2 hb2 HR1 HB1 HO1 HZ1 HK1 hc2)))
 have hfin:=Yak _ w.heap.size 1 (.int .u32 qb) _ 168 (Yak w2 w.heap.size 0 (.int .u32 qa) _ 168 HC2.out)
 refine bodyPost_ret (v:=.agg #[.int .u32 qa,.int .u32 qb]) ?_ rfl ⟨rfl,?_⟩
 ·exact results_cell_row Tryz.results212 _ _ w.heap.size 168 #[.int .u32 qa,.int .u32 qb] (0,0) _ rfl hfin underlying168 rfl (by kernel_rfl)
 ·have hb0:Below w.heap.size w w2:=⟨HK2.out.os,HK2.out.tape,HK2.out.output,HK2.out.size,fun k hk=>?_⟩
  ·exact (hb0.setCell (p:=⟨w.heap.size,0,none⟩) (Nat.le_refl _) _).setCell (p:=⟨w.heap.size,1,none⟩) (Nat.le_refl _) _
  rw [HO2.out k (by omega),Below.heap_alloc _ _ _ (by simp;omega),Below.heap_alloc _ _ _ hk]
end Go.Proofs.YtihbngfbcnojcaaGreat
