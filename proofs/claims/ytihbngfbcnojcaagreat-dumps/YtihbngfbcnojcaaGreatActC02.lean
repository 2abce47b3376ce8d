import Derived.Test.YtihbngfbcnojcaaGreatActC01
import Derived.Deep.RegionLaw
import Derived.Laws.CopyOwn
import Derived.Deep.AppendLies
import Derived.Deep.RegionHeld3
set_option maxRecDepth 100000
set_option maxHeartbeats 8000000
namespace Go.Proofs.YtihbngfbcnojcaaGreat
open Go.RowKit Tryz
variable {l l':List (TxV×TxS)} {xs:List Value} {base mb size:Nat} {e:TypeId} {v:Value} {w w' w1:World} {s:Ya4} {other pairs:Yaf} {n:Yaz}
theorem sz5:(prog.info? 5).map (·.size)=some 1:=by kernel_rfl
theorem Ye8 (n:Int) (k:Nat):∀ u∈be n k,u.oneCell'=true:=by
 induction k with
 | zero=>simp [be]
 | succ k ih=>
  intro u hu;simp [be] at hu;rcases hu with rfl | hu
  ·rfl
  ·exact ih u hu
theorem Yu4 (a b:Int):∀ u∈be a 4 ++ be b 4,u.oneCell'=true:=by
 intro u hu;rcases List.mem_append.1 hu with h | h
 ·exact Ye8 _ _ u h
 ·exact Ye8 _ _ u h
theorem Yim (g j:Nat):(⟨g,0,none⟩:Addr).add j=⟨g,j,none⟩:=by unfold Addr.add;split <;> simp_all
theorem Yk3 {o1 o2 o3:Obj}:Below w.heap.size w (((w.alloc o1).alloc o2).alloc o3)∧(((w.alloc o1).alloc o2).alloc o3).heap.size=w.heap.size+3 ∧
 (((w.alloc o1).alloc o2).alloc o3).heap[w.heap.size]? = some o1∧(((w.alloc o1).alloc o2).alloc o3).heap[w.heap.size+1]? = some o2∧(((w.alloc o1).alloc o2).alloc o3).heap[w.heap.size+1+1]? = some o3:=by
 refine ⟨(((Below.refl _ _).alloc (Nat.le_refl _) _).alloc (by simp) _).alloc (by simp;omega) _,by simp,?_,?_,?_⟩
 ·rw [Below.heap_alloc _ _ _ (by simp;omega),Below.heap_alloc _ _ _ (by simp)];exact heap_alloc_new _ _
 ·rw [Below.heap_alloc _ _ _ (by simp)];have:=heap_alloc_new (w.alloc o1) o2;simpa using this
 ·have:=heap_alloc_new ((w.alloc o1).alloc o2) o3;simpa using this
theorem Yu5 (A bl:List Value) (z:Value) (hA:A.length=8) (hL:bl.length≤48):
 splice (splice (splice (List.replicate 64 z) 0 A) 8 bl) 56 A=A ++ bl ++ List.replicate (48 - bl.length) z ++ A:=by
 have e1:splice (List.replicate 64 z) 0 A=A ++ List.replicate 56 z:=by simp [splice,hA]
 have e2:splice (A ++ List.replicate 56 z) 8 bl=A ++ (bl ++ List.replicate (56 - bl.length) z):=by
  simp only [splice];rw [List.take_left' hA,List.drop_append,List.drop_eq_nil_of_le (by omega),hA,List.nil_append,List.drop_replicate];congr 3;omega
 have e3:A ++ (bl ++ List.replicate (56 - bl.length) z)=(A ++ bl ++ List.replicate (48 - bl.length) z) ++ List.replicate 8 z:=by
  rw [show 56 - bl.length=(48 - bl.length)+8 by omega,←List.replicate_append_replicate];simp only [List.append_assoc]
 have hl:(A ++ bl ++ List.replicate (48 - bl.length) z).length=56:=by simp [hA];omega
 rw [e1,e2,e3]
 simp only [splice]
 rw [List.take_left' hl,List.drop_eq_nil_of_le (by rw [List.length_append,hl,hA,List.length_replicate];omega)]
 simp [List.append_assoc]
theorem Ypo (S:List Value) (h:∀ u∈S,u.oneCell'=true):S.toArray.all (·.oneCell')=true:=by simpa using h
theorem Yu6 (a b:Int) (A:List Value) (hA:A.length=8) (hA1:∀ u∈A,u.oneCell'=true)
 (hby:∀ w,Calls prog 213 #[.agg #[.int .u32 a,.int .u32 b]] w fun e w'=>∃ v',e=.returned v'∧w'.ownsRow (w.heap.size+1) 5 1 v' 8 A∧Below w.heap.size w w')
 (w:World) (gb L cap:Nat) (bl:List Value) (hgb:gb<w.heap.size) (hL:bl.length=L) (hL':L≤48)
 (hbl:∀ j u,bl[j]? = some u→w.cell? ⟨gb,j,none⟩=some u) (h1:∀ u∈bl,u.oneCell'=true):
 Calls prog 167 #[.agg #[.int .u32 a,.int .u32 b],.slice (some ⟨gb,0,none⟩) L cap] w fun e w'=>
  e=.returned (.agg (A ++ bl ++ List.replicate (48 - L) (Value.int .u8 0) ++ A).toArray)∧Below w.heap.size w w':=by
 have tok1:True:=trivial
 have HA:=Yh hA
 have HL:=Yh hL
 clear hA hL
 have HBY:=Yh hby
 clear hby
 go_enter func167,ntmps167
 go_wp2
 have hst:=Yk3 (w:=w) (o1:=.cells #[.int .u32 a,.int .u32 b] 168) (o2:=.cells (List.replicate 64 (Value.int .u8 0)).toArray 98) (o3:=.cells (List.replicate 64 (Value.int .u8 0)).toArray 98)
 change Code.wp _ _ _ _ (((w.alloc (.cells #[.int .u32 a,.int .u32 b] 168)).alloc (.cells (List.replicate 64 (Value.int .u8 0)).toArray 98)).alloc (.cells (List.replicate 64 (Value.int .u8 0)).toArray 98))
 revert hst
 generalize ((w.alloc (.cells #[.int .u32 a,.int .u32 b] 168)).alloc (.cells (List.replicate 64 (Value.int .u8 0)).toArray 98)).alloc (.cells (List.replicate 64 (Value.int .u8 0)).toArray 98)=w0
 rintro ⟨hB0,hs0,hh0,hh1,hh2⟩
 have c0:w0.cell? ⟨w.heap.size,0,none⟩=some (.int .u32 a):=Yaa hh0 rfl
 have c1:w0.cell? ⟨w.heap.size,1,none⟩=some (.int .u32 b):=Yaa hh0 rfl
 have HBL:=Yh hbl
 have HB0:=Yh hB0
 have HH0:=Yh hh0
 have HH1:=Yh hh1
 have HH2:=Yh hh2
 have HS0:=Yh hs0
 clear hbl hB0 hh0 hh1 hh2 hs0
 go_region_law (first
  | (
   refine step_copy_splice rfl (.tmp 6) (.tmp 8) 46 46 rfl 5 underlying46 sz5 (some ⟨w.heap.size+1+1,0,none⟩) (some ⟨g1,0,none⟩) 64 64 8 cap1 rfl rfl (w.heap.size+1+1) 0 _ 98 HH3.out A HA.out (fun _=>⟨rfl,⟨g1,0,none⟩,rfl,HSRC.out⟩) (by rw [HA.out];simp) hA1 (w.heap.size+1+1) w1 (Below.refl _ _) (Nat.le_refl _) ?_;intro w2 HH4 hB2;have HB2:Hid (Below (w.heap.size+1+1) w0 w2):=HB1.out.trans hB2;clear hB2)
  | (go_simp;go_wp2_with (first | (go_at_call 213;go_must (
   refine (HBY.out _).mono ?_;rintro e w1 ⟨v1,rfl,hown1,hb1⟩;obtain ⟨g1,cap1,cur1,rfl,hg1b,hg1h,hc1,hcur⟩:=Yhw hown1 (by omega);have HSRC:Hid (∀ j u,A[j]? = some u→w1.cell? ((⟨g1,0,none⟩:Addr).add j)=some u):=fun j u hu=>by rw [Yim];exact Yaa hg1h (hcur j u hu)
   have hB1':Below w0.heap.size w0 w1:=(Below.refl _ _).drew.trans hb1;have HB1:Hid (Below (w.heap.size+1+1) w0 w1):=hB1'.mono (by have:=HS0.out;omega);have HH3:Hid (w1.heap[w.heap.size+1+1]? = some (.cells (List.replicate 64 (Value.int .u8 0)).toArray 98)):=(hB1'.block (w.heap.size+1+1) (by have:=HS0.out;omega)).trans HH2.out;clear hown1 hb1 hg1b hg1h hcur hc1 hB1')))))
 have hgb2:gb<w2.heap.size:=by have:=HB2.out.size;have:=HS0.out;omega
 have hm:L=Nat.min L 56:=by simp [Nat.min_def];omega
 have HM:=Yh hm
 clear hm
 go_wp2_with (first | (have _t:=tok1;(
  refine wpList_copy_splice rfl (.tmp 10) (.tmp 11) 46 46 rfl 5 underlying46 sz5 (some ⟨w.heap.size+1+1,8,none⟩) (some ⟨gb,0,none⟩) 56 56 L cap rfl rfl (w.heap.size+1+1) 8 _ 98 HH4.out bl (HL.out.trans HM.out) (fun _=>⟨rfl,⟨gb,0,none⟩,rfl,?hsrc⟩) ?hfit h1 (w.heap.size+1+1) w0 HB2.out (Nat.le_refl _) ?_
  case hsrc=>intro j u hu;rw [Yim,HB2.out.cell (show gb<w.heap.size+1+1 by omega),HB0.out.cell hgb];exact HBL.out j u hu
  case hfit=>rw [length_splice _ _ _ (by rw [HA.out];simp)];have:=HL.out;simp;omega
  intro w3 HH5 hB3;have HB3:=Yh hB3;clear hB3 tok1)))
 have k0:w3.heap[w.heap.size]? = some (.cells #[.int .u32 a,.int .u32 b] 168):=(HB3.out.block _ (by omega)).trans HH0.out
 have d0:w3.cell? ⟨w.heap.size,0,none⟩=some (.int .u32 a):=Yaa k0 rfl
 have d1:w3.cell? ⟨w.heap.size,1,none⟩=some (.int .u32 b):=Yaa k0 rfl
 have HS3:Hid (w.heap.size+3≤w3.heap.size):=by have:=HB3.out.size;have:=HS0.out;show _≤_;omega
 have HLC:Hid ((splice (splice (List.replicate 64 (Value.int .u8 0)) 0 A) 8 bl).length=64):=by
  show _=_;rw [length_splice _ _ _ (by rw [length_splice _ _ _ (by rw [HA.out];simp)];have:=HL.out;simp;omega),length_splice _ _ _ (by rw [HA.out];simp)];simp
 clear k0 c0 c1
 go_region_law (first
  | (
   refine step_copy_splice rfl (.tmp 13) (.tmp 15) 46 46 rfl 5 underlying46 sz5 (some ⟨w.heap.size+1+1,56,none⟩) (some ⟨g4,0,none⟩) 8 8 8 cap4 rfl rfl (w.heap.size+1+1) 56 _ 98 HH6.out A HA.out (fun _=>⟨rfl,⟨g4,0,none⟩,rfl,HSRC4.out⟩) (by rw [HA.out,HLC.out];omega) hA1 (w.heap.size+1+1) w0 HB4.out (Nat.le_refl _) ?_;intro w5 HH7 hB5;have HB5:=Yh hB5;clear hB5)
  | (go_simp;go_wp2_with (first | (go_at_call 213;go_must (
   refine (HBY.out _).mono ?_;rintro e w4 ⟨v4,rfl,hown4,hb4⟩;obtain ⟨g4,cap4,cur4,rfl,hg4b,hg4h,hc4,hcur⟩:=Yhw hown4 (by omega);have HSRC4:Hid (∀ j u,A[j]? = some u→w4.cell? ((⟨g4,0,none⟩:Addr).add j)=some u):=fun j u hu=>by rw [Yim];exact Yaa hg4h (hcur j u hu)
   have hB4':Below w3.heap.size w3 w4:=(Below.refl _ _).drew.trans hb4;have HB4:Hid (Below (w.heap.size+1+1) w0 w4):=HB3.out.trans (hB4'.mono (by have:=HS3.out;omega));have HH6:Hid (w4.heap[w.heap.size+1+1]? = some (.cells (splice (splice (List.replicate 64 (Value.int .u8 0)) 0 A) 8 bl).toArray 98)):=(hB4'.block (w.heap.size+1+1) (by have:=HS3.out;omega)).trans HH5.out;clear hown4 hb4 hg4b hg4h hcur hc4 hB4')))))
 have HF:Hid (splice (splice (splice (List.replicate 64 (Value.int .u8 0)) 0 A) 8 bl) 56 A=A ++ bl ++ List.replicate (48 - L) (Value.int .u8 0) ++ A):=by
  have:=Yu5 A bl (.int .u8 0) HA.out (by have:=HL.out;omega);rw [HL.out] at this;exact this
 rw [HF.out] at HH7
 have HSL:Hid ((A ++ bl ++ List.replicate (48 - L) (Value.int .u8 0) ++ A).length=64):=by
  show _=_;simp only [List.length_append,List.length_replicate,HA.out,HL.out];omega
 have HS1:Hid (∀ u∈A ++ bl ++ List.replicate (48 - L) (Value.int .u8 0) ++ A,u.oneCell'=true):=by
  intro u hu;simp only [List.mem_append] at hu;rcases hu with ((h | h) | h) | h
  ·exact hA1 u h
  ·exact h1 u h
  ·rw [List.eq_of_mem_replicate h];rfl
  ·exact hA1 u h
 have K1:Hid (w5.heap[w.heap.size+1]? = some (.cells (List.replicate 64 (Value.int .u8 0)).toArray 98)):=(HB5.out.block _ (by omega)).trans HH1.out
 have HBF:Hid (Below w.heap.size w w5):=HB0.out.trans (HB5.out.mono (by omega))
 clear HF HBL
 obtain ⟨S,hS⟩:∃ S,A ++ bl ++ List.replicate (48 - L) (Value.int .u8 0) ++ A=S:=⟨_,rfl⟩
 rw [hS] at HH7 HSL HS1
 have HSS:=Yh hS
 clear hS
 go_wp2_with (first
  | (
   refine wpList_load_row rfl 98 (.tmp 5) rfl (w.heap.size+1+1) rfl 98 _ (0,0) _ HH7.out underlying98 rfl ?hi1 ?_
   case hi1=>rw [List.size_toArray,HSL.out];kernel_rfl)
  | (
   refine wpList_store_row rfl 98 (.tmp 4) (.tmp 17) rfl (w.heap.size+1) S.toArray rfl rfl 98 _ K1.out ?hi2 ?ho ?h1 ?_;go_must (
    case hi2=>rw [List.size_toArray,HSL.out];kernel_rfl
    case ho=>rw [List.size_toArray,List.size_toArray,HSL.out];rfl
    case h1=>exact Ypo _ HS1.out)))
 refine bodyPost_ret (v:=.agg S.toArray) ?_ rfl ⟨by rw [HSS.out],?_⟩
 ·exact results_cell_row Tryz.results167 _ _ (w.heap.size+1) 98 S.toArray (0,0) _ rfl (setRow_heap _ _ _ _ _ _ K1.out) underlying98 rfl (by rw [List.size_toArray,HSL.out];kernel_rfl)
 ·exact below_setRow HBF.out (by omega) _
theorem Yu7 (a b:Int) (w:World) (ha:0≤a) (ha':a<4294967296) (hb:0≤b) (hb':b<4294967296) (gb L cap:Nat) (bl:List Value) (hgb:gb<w.heap.size) (hL:bl.length=L) (hL':L≤48)
 (hbl:∀ j u,bl[j]? = some u→w.cell? ⟨gb,j,none⟩=some u) (h1:∀ u∈bl,u.oneCell'=true):
 Calls prog 167 #[.agg #[.int .u32 a,.int .u32 b],.slice (some ⟨gb,0,none⟩) L cap] w fun e w'=>
  e=.returned (.agg ((be a 4 ++ be b 4) ++ bl ++ List.replicate (48 - L) (Value.int .u8 0) ++ (be a 4 ++ be b 4)).toArray)∧Below w.heap.size w w':=
 Yu6 a b _ (by simp [Yeq]) (Yu4 a b) (fun w=>Yu3 a b w ha ha' hb hb') w gb L cap bl hgb hL hL' hbl h1
structure Yac where
 (kind tx prev next:Int)
 (key:ByteArray)
 (oldIs:Bool)
 (old:ByteArray)
 (newIs:Bool)
 (new:ByteArray)
def Yac.cells (e:Yac):Array Value:=#[.int .i64 e.kind,.int .i64 e.tx,.int .i64 e.prev,.int .i64 e.next,.string e.key,.bool e.oldIs,.string e.old,.bool e.newIs,.string e.new]
structure Yac.Fits (e:Yac):Prop where
 kind:0≤e.kind∧e.kind<256
 tx:0≤e.tx∧e.tx<256
 prev:0≤e.prev∧e.prev<65536
 next:0≤e.next∧e.next<65536
 key:e.key.size≤8
 old:e.old.size≤12
 new:e.new.size≤12
def Yac.body (e:Yac):List Value:=be e.kind 1 ++ be e.tx 1 ++ be e.prev 2 ++ be e.next 2 ++ Ya2 e.key 8 ++ Yb7 e.oldIs e.old ++ Yb7 e.newIs e.new
theorem Ypp (s:ByteArray):∀ u∈Lib.strCells s,u.oneCell'=true:=Lib.strCells_oneCell s
theorem Ymp (n:Nat) (k:Int):∀ u∈List.replicate n (Value.int .u8 k),u.oneCell'=true:=fun u hu=>by rw [List.eq_of_mem_replicate hu];rfl
theorem Ypq (s:ByteArray) (r:Nat):∀ u∈Ya2 s r,u.oneCell'=true:=by
 intro u hu;simp only [Ya2,List.mem_append,List.mem_singleton] at hu;rcases hu with (h | h) | h
 ·rw [h];rfl
 ·exact Ypp s u h
 ·exact Ymp _ _ u h
theorem Ypr (b:Bool) (s:ByteArray):∀ u∈Yb7 b s,u.oneCell'=true:=by
 intro u hu;simp only [Yb7,List.mem_append,List.mem_singleton] at hu;rcases hu with (h | h) | h
 ·rw [h];rfl
 ·exact Ypp s u h
 ·exact Ymp _ _ u h
theorem Yk4 (s:ByteArray) (r:Nat) (h:s.size≤r):(Ya2 s r).length=1+r:=by simp [Ya2,Lib.strCells_length];omega
theorem Ymq (b:Bool) (s:ByteArray) (h:s.size≤12):(Yb7 b s).length=13:=by simp [Yb7,Lib.strCells_length];omega
theorem Yac.body_length (e:Yac) (h:e.Fits):e.body.length=41:=by
 simp only [Yac.body,List.length_append,Yeq,Yk4 _ _ h.key,Ymq _ _ h.old,Ymq _ _ h.new]
theorem Yac.body_one (e:Yac):∀ u∈e.body,u.oneCell'=true:=by
 intro u hu;simp only [Yac.body,List.mem_append] at hu;rcases hu with (((((h | h) | h) | h) | h) | h) | h
 ·exact Ye8 _ _ u h
 ·exact Ye8 _ _ u h
 ·exact Ye8 _ _ u h
 ·exact Ye8 _ _ u h
 ·exact Ypq _ _ u h
 ·exact Ypr _ _ u h
 ·exact Ypr _ _ u h
def Yam (a b:Int) (bl:List Value):List Value:=(be a 4 ++ be b 4) ++ bl ++ List.replicate (48 - bl.length) (Value.int .u8 0) ++ (be a 4 ++ be b 4)
theorem Yeh (a b:Int) (bl:List Value) (h:bl.length≤48):(Yam a b bl).length=64:=by
 simp only [Yam,List.length_append,List.length_replicate,Yeq];omega
theorem Yf1 (a b:Int) (bl:List Value) (h:∀ u∈bl,u.oneCell'=true):∀ u∈Yam a b bl,u.oneCell'=true:=by
 intro u hu;simp only [Yam,List.mem_append] at hu;rcases hu with (((h1 | h1) | h1) | h1) | (h1 | h1)
 ·exact Ye8 _ _ u h1
 ·exact Ye8 _ _ u h1
 ·exact h u h1
 ·exact Ymp _ _ u h1
 ·exact Ye8 _ _ u h1
 ·exact Ye8 _ _ u h1
theorem Yk5 (a b:Int) (w:World) (ha:0≤a) (ha':a<4294967296) (hb:0≤b) (hb':b<4294967296) (gb L cap:Nat) (bl:List Value) (hgb:gb<w.heap.size) (hL:bl.length=L) (hL':L≤48)
 (hbl:∀ j u,bl[j]? = some u→w.cell? ⟨gb,j,none⟩=some u) (h1:∀ u∈bl,u.oneCell'=true):
 Calls prog 167 #[.agg #[.int .u32 a,.int .u32 b],.slice (some ⟨gb,0,none⟩) L cap] w fun e w'=>
  ∃ S:List Value,e=.returned (.agg S.toArray)∧Hid (S=Yam a b bl)∧Hid (S.length=64)∧Hid (∀ u∈S,u.oneCell'=true)∧Below w.heap.size w w':=by
 refine (Yu7 a b w ha ha' hb hb' gb L cap bl hgb hL hL' hbl h1).mono ?_
 rintro e w' ⟨rfl,hb⟩
 exact ⟨Yam a b bl,by rw [Yam,hL],rfl,Yeh a b bl (by omega),Yf1 a b bl h1,hb⟩
theorem Yu8 (a b:Int) (e:Yac) (w:World) (ha:0≤a) (ha':a<4294967296) (hb:0≤b) (hb':b<4294967296) (he:e.Fits):
 Calls prog 296 #[.agg #[.int .u32 a,.int .u32 b],.agg e.cells] w fun r w'=>r=.returned (.agg (Yam a b e.body).toArray)∧Below w.heap.size w w':=by
 obtain ⟨kind,tx,prev,next,key,oldIs,old,newIs,new⟩:=e
 obtain ⟨hk,ht,hp,hn,hkey,hold,hnew⟩:=he
 have BL:=Yac.body_length ⟨kind,tx,prev,next,key,oldIs,old,newIs,new⟩ ⟨hk,ht,hp,hn,hkey,hold,hnew⟩
 have HBL:Hid _:=Yh BL
 clear BL
 simp only at hk ht hp hn hkey hold hnew
 have tok1:True:=trivial
 have tok2:True:=trivial
 have tok3:True:=trivial
 have tok4:True:=trivial
 have tok5:True:=trivial
 have tok6:True:=trivial
 have tok7:True:=trivial
 have hst:=Yk3 (w:=w) (o1:=.cells #[.int .u32 a,.int .u32 b] 168) (o2:=.cells #[.int .i64 kind,.int .i64 tx,.int .i64 prev,.int .i64 next,.string key,.bool oldIs,.string old,.bool newIs,.string new] 152) (o3:=.cells (List.replicate 64 (Value.int .u8 0)).toArray 98)
 have HST:=Yh hst
 clear hst
 simp only [Yac.cells]
 go_enter func296,ntmps296
 go_wp2_with fail
 change Calls _ _ _ (((w.alloc (.cells #[.int .u32 a,.int .u32 b] 168)).alloc (.cells #[.int .i64 kind,.int .i64 tx,.int .i64 prev,.int .i64 next,.string key,.bool oldIs,.string old,.bool newIs,.string new] 152)).alloc (.cells (List.replicate 64 (Value.int .u8 0)).toArray 98)) _
 revert HST
 generalize ((w.alloc (.cells #[.int .u32 a,.int .u32 b] 168)).alloc (.cells #[.int .i64 kind,.int .i64 tx,.int .i64 prev,.int .i64 next,.string key,.bool oldIs,.string old,.bool newIs,.string new] 152)).alloc (.cells (List.replicate 64 (Value.int .u8 0)).toArray 98)=w0
 intro HST
 obtain ⟨hB0,hs0,hh0,hh1,hh2⟩:=HST.out
 have HB0:=Yh hB0
 have HH0:=Yh hh0
 have HH1:=Yh hh1
 have HH2:=Yh hh2
 have HS0:=Yh hs0
 clear hB0 hh0 hh1 hh2 hs0 HST
 refine (Yg9 (w.heap.size+3) _ 0 [] kind 1 _ (World.ownsRow_nil _ _ _ _) (by have:=HS0.out;omega) (by omega) hk.1 (by omega) (by omega)).mono ?_
 rintro r w1 ⟨v1,rfl,hown,hg⟩
 have HO1:=Yh hown
 have HB1:Hid (Below (w.heap.size+3) w0 w1):=hg.below (World.ownsRow_nil _ (w.heap.size+3) 5 1) (Nat.le_refl _) (by have:=HS0.out;omega)
 have HS1:Hid (w.heap.size+3≤w1.heap.size):=by have:=HB1.out.size;have:=HS0.out;show _≤_;omega
 have q1_1:w1.cell? ⟨w.heap.size+1,1,none⟩=some (.int .i64 tx):=(HB1.out.cell (by simp)).trans (Yaa HH1.out rfl)
 clear tok1 hown hg
 go_wp2_with (first
  | (go_at_call 169;have _t:=tok2;go_must (
   refine (Yg9 (w.heap.size+3) _ 1 (be kind 1) tx 1 _ HO1.out (by have:=HS1.out;omega) (by omega) ht.1 (by omega) (by omega)).mono ?_;rintro r w2 ⟨v2,rfl,hown,hg⟩;have HO2:=Yh hown;have HB2:Hid (Below (w.heap.size+3) w0 w2):=HB1.out.trans (hg.below HO1.out (Nat.le_refl _) (by have:=HS1.out;omega));have HS2:Hid (w.heap.size+3≤w2.heap.size):=by have:=HB2.out.size;have:=HS0.out;show _≤_;omega
   have q2_2:w2.cell? ⟨w.heap.size+1,2,none⟩=some (.int .i64 prev):=(HB2.out.cell (by simp)).trans (Yaa HH1.out rfl);clear tok2 hown hg HO1 HB1 HS1 q1_1))
  | (go_at_call 169;have _t:=tok3;go_must (
   refine (Yg9 (w.heap.size+3) _ 2 (be kind 1 ++ be tx 1) prev 2 _ HO2.out (by have:=HS2.out;omega) (by omega) hp.1 (by omega) (by omega)).mono ?_;rintro r w3 ⟨v3,rfl,hown,hg⟩;have HO3:=Yh hown;have HB3:Hid (Below (w.heap.size+3) w0 w3):=HB2.out.trans (hg.below HO2.out (Nat.le_refl _) (by have:=HS2.out;omega));have HS3:Hid (w.heap.size+3≤w3.heap.size):=by have:=HB3.out.size;have:=HS0.out;show _≤_;omega
   have q3_3:w3.cell? ⟨w.heap.size+1,3,none⟩=some (.int .i64 next):=(HB3.out.cell (by simp)).trans (Yaa HH1.out rfl);clear tok3 hown hg HO2 HB2 HS2 q2_2))
  | (go_at_call 169;have _t:=tok4;go_must (
   refine (Yg9 (w.heap.size+3) _ 4 (be kind 1 ++ be tx 1 ++ be prev 2) next 2 _ HO3.out (by have:=HS3.out;omega) (by omega) hn.1 (by omega) (by omega)).mono ?_;rintro r w4 ⟨v4,rfl,hown,hg⟩;have HO4:=Yh hown;have HB4:Hid (Below (w.heap.size+3) w0 w4):=HB3.out.trans (hg.below HO3.out (Nat.le_refl _) (by have:=HS3.out;omega));have HS4:Hid (w.heap.size+3≤w4.heap.size):=by have:=HB4.out.size;have:=HS0.out;show _≤_;omega
   have q4_4:w4.cell? ⟨w.heap.size+1,4,none⟩=some (.string key):=(HB4.out.cell (by simp)).trans (Yaa HH1.out rfl);clear tok4 hown hg HO3 HB3 HS3 q3_3))
  | (go_at_call 211;have _t:=tok5;go_must (
   refine (Yil (w.heap.size+3) _ 6 (be kind 1 ++ be tx 1 ++ be prev 2 ++ be next 2) key 8 _ HO4.out (by have:=HS4.out;omega) (by omega) hkey (by omega)).mono ?_;rintro r w5 ⟨v5,rfl,hown,hg⟩;have HO5:=Yh hown;have HB5:Hid (Below (w.heap.size+3) w0 w5):=HB4.out.trans (hg.below HO4.out (Nat.le_refl _) (by have:=HS4.out;omega));have HS5:Hid (w.heap.size+3≤w5.heap.size):=by have:=HB5.out.size;have:=HS0.out;show _≤_;omega
   have q5_5:w5.cell? ⟨w.heap.size+1,5,none⟩=some (.bool oldIs):=(HB5.out.cell (by simp)).trans (Yaa HH1.out rfl);have q5_6:w5.cell? ⟨w.heap.size+1,6,none⟩=some (.string old):=(HB5.out.cell (by simp)).trans (Yaa HH1.out rfl);clear tok5 hown hg HO4 HB4 HS4 q4_4))
  | (go_at_call 298;have _t:=tok6;go_must (
   refine (Ypn (w.heap.size+3) _ 15 (be kind 1 ++ be tx 1 ++ be prev 2 ++ be next 2 ++ Ya2 key 8) oldIs old _ HO5.out (by have:=HS5.out;omega) (by omega) hold).mono ?_;rintro r w6 ⟨v6,rfl,hown,hg⟩;have HO6:=Yh hown;have HB6:Hid (Below (w.heap.size+3) w0 w6):=HB5.out.trans (hg.below HO5.out (Nat.le_refl _) (by have:=HS5.out;omega));have HS6:Hid (w.heap.size+3≤w6.heap.size):=by have:=HB6.out.size;have:=HS0.out;show _≤_;omega
   have q6_7:w6.cell? ⟨w.heap.size+1,7,none⟩=some (.bool newIs):=(HB6.out.cell (by simp)).trans (Yaa HH1.out rfl);have q6_8:w6.cell? ⟨w.heap.size+1,8,none⟩=some (.string new):=(HB6.out.cell (by simp)).trans (Yaa HH1.out rfl);clear tok6 hown hg HO5 HB5 HS5 q5_5 q5_6))
  | (go_at_call 298;have _t:=tok7;go_must (
   refine (Ypn (w.heap.size+3) _ 28 (be kind 1 ++ be tx 1 ++ be prev 2 ++ be next 2 ++ Ya2 key 8 ++ Yb7 oldIs old) newIs new _ HO6.out (by have:=HS6.out;omega) (by omega) hnew).mono ?_;rintro r w7 ⟨v7,rfl,hown,hg⟩;have HO7:=Yh hown;have HB7:Hid (Below (w.heap.size+3) w0 w7):=HB6.out.trans (hg.below HO6.out (Nat.le_refl _) (by have:=HS6.out;omega));have HS7:Hid (w.heap.size+3≤w7.heap.size):=by have:=HB7.out.size;have:=HS0.out;show _≤_;omega
   have q0:w7.cell? ⟨w.heap.size,0,none⟩=some (.int .u32 a):=(HB7.out.cell (by simp)).trans (Yaa HH0.out rfl);have q1:w7.cell? ⟨w.heap.size,1,none⟩=some (.int .u32 b):=(HB7.out.cell (by simp)).trans (Yaa HH0.out rfl);obtain ⟨g7,cap7,cur7,rfl,hg7b,hg7h,hc7,hcur⟩:=Yhw HO7.out (by omega);have HG7:=Yh hg7h;have HC7:=Yh hcur;clear hg7b hg7h hc7 hcur;clear tok7 hown hg HO6 HB6 HS6 q6_7 q6_8))
  | (go_at_call 167;go_must (
   refine (Yk5 a b _ ha ha' hb hb' g7 41 cap7 (be kind 1 ++ be tx 1 ++ be prev 2 ++ be next 2 ++ Ya2 key 8 ++ Yb7 oldIs old ++ Yb7 newIs new) (Yaj HG7.out) HBL.out (by omega) (fun j u hu=>Yaa HG7.out (HC7.out j u hu)) (Yac.body_one ⟨kind,tx,prev,next,key,oldIs,old,newIs,new⟩)).mono ?_;rintro r w8 ⟨S,rfl,HSS,HSL,HS1,hb8⟩;have K1:Hid (w8.heap[w.heap.size+1+1]? = some (.cells (List.replicate 64 (Value.int .u8 0)).toArray 98)):=((HB7.out.trans (hb8.mono HS7.out)).block _ (by omega)).trans HH2.out;have HB8:Hid (Below (w.heap.size+3) w0 w8):=HB7.out.trans (hb8.mono HS7.out);clear hb8 HB7 HS7 HG7 HC7 q0 q1))
  | (
   refine wpList_store_row rfl 98 (.tmp 4) (.tmp 35) rfl (w.heap.size+1+1) S.toArray rfl rfl 98 _ K1.out ?hi2 ?ho ?h1 ?_;go_must (
    case hi2=>rw [List.size_toArray,HSL.out];kernel_rfl
    case ho=>rw [List.size_toArray,List.size_toArray,HSL.out];rfl
    case h1=>exact Ypo _ HS1.out)))
 refine bodyPost_ret (v:=.agg S.toArray) ?_ rfl ⟨by rw [HSS.out];rfl,?_⟩
 ·exact results_cell_row Tryz.results296 _ _ (w.heap.size+1+1) 98 S.toArray (0,0) _ rfl (setRow_heap _ _ _ _ _ _ K1.out) underlying98 rfl (by rw [List.size_toArray,HSL.out];kernel_rfl)
 ·exact below_setRow (HB0.out.trans (HB8.out.mono (by omega))) (by omega) _
def Ybf (l:List Yac):List Value:=l.flatMap fun e=>e.cells.toList
theorem Yk6:(prog.info? 152).map (fun i=>(i.zero,i.size,i.bytes))=some (some (.agg #[.int .i64 0,.int .i64 0,.int .i64 0,.int .i64 0,.string ByteArray.empty,.bool false,.string ByteArray.empty,.bool false,.string ByteArray.empty]),9,96):=by kernel_rfl
abbrev Ybs:Type:=Unit⊕Unit⊕Unit⊕Nat⊕Nat⊕Nat
abbrev Ybs.mod:Ybs:=Sum.inl ()
abbrev Ybs.opn:Ybs:=Sum.inr (Sum.inl ())
abbrev Ybs.lg:Ybs:=Sum.inr (Sum.inr (Sum.inl ()))
abbrev Ybs.rd (i:Nat):Ybs:=Sum.inr (Sum.inr (Sum.inr (Sum.inl i)))
abbrev Ybs.wr (i:Nat):Ybs:=Sum.inr (Sum.inr (Sum.inr (Sum.inr (Sum.inl i))))
abbrev Ybs.up (i:Nat):Ybs:=Sum.inr (Sum.inr (Sum.inr (Sum.inr (Sum.inr i))))
theorem Ybs.elim {motive:Ybs→Prop} (mod:motive .mod) (opn:motive .opn) (lg:motive .lg) (rd:∀ i,motive (.rd i)) (wr:∀ i,motive (.wr i)) (up:∀ i,motive (.up i)) (a:Ybs):motive a:=
 match a with
 | Sum.inl ()=>mod
 | Sum.inr (Sum.inl ())=>opn
 | Sum.inr (Sum.inr (Sum.inl ()))=>lg
 | Sum.inr (Sum.inr (Sum.inr (Sum.inl i)))=>rd i
 | Sum.inr (Sum.inr (Sum.inr (Sum.inr (Sum.inl i))))=>wr i
 | Sum.inr (Sum.inr (Sum.inr (Sum.inr (Sum.inr i))))=>up i
def Yai (mb:Nat) (s:Ya4) (l:List (TxV×TxS)):Ybs→Option Nat
 | Sum.inl ()=>some mb
 | Sum.inr (Sum.inl ())=>s.vt.ownBlock
 | Sum.inr (Sum.inr (Sum.inl ()))=>s.vl.ownBlock
 | Sum.inr (Sum.inr (Sum.inr (Sum.inl i)))=>l[i]?.bind fun p=>p.2.vr.ownBlock
 | Sum.inr (Sum.inr (Sum.inr (Sum.inr (Sum.inl i))))=>l[i]?.bind fun p=>p.2.vw.ownBlock
 | Sum.inr (Sum.inr (Sum.inr (Sum.inr (Sum.inr i))))=>l[i]?.bind fun p=>p.2.vu.ownBlock
structure Yaq (w:World) (mb:Nat) (n:Yaz) (s:Ya4) (l:List (TxV×TxS)) (pairs other:Yaf) (log:List Yac):Prop where
 cell:w.heap[mb]? = some (.cells (Yc6 n s) 119 (0,0))
 opn:w.ownsRow 0 200 5 s.vt l.length (Ya1 l)
 txs:∀ p∈l,Yc9 w p
 prs:w.ownsRow 0 43 2 s.vp pairs.length (Yad pairs)
 oth:w.ownsRow 0 43 2 s.vo other.length (Yad other)
 lg:w.ownsRow 0 152 9 s.vl log.length (Ybf log)
 apart:∀ a b k,Yai mb s l a=some k→Yai mb s l b=some k→a=b
 imm:∀ a k,Yai mb s l a=some k→s.vp.ownBlock≠some k∧s.vo.ownBlock≠some k
structure Ya9 (w w':World) (mb:Nat) (s s':Ya4) (l l':List (TxV×TxS)):Prop where
 kept:∀ k,k<w.heap.size→(∀ a,Yai mb s l a≠some k)→w'.heap[k]? = w.heap[k]?
 blks:∀ a k,Yai mb s' l' a=some k→(∃ b,Yai mb s l b=some k)∨w.heap.size≤k
 below:Below 0 w w'
 imm:∀ k,s'.vp.ownBlock=some k∨s'.vo.ownBlock=some k→(s.vp.ownBlock=some k∨s.vo.ownBlock=some k)∨w.heap.size≤k
variable {log:List Yac}
theorem Yaq.lt (h:Yaq w mb n s l pairs other log):∀ a k,Yai mb s l a=some k→k<w.heap.size:=by
 intro a k hk
 cases a using Ybs.elim with
 | mod=>simp [Yai] at hk;subst hk;exact Yaj h.cell
 | opn=>exact (h.opn.lt k hk).2
 | lg=>exact (h.lg.lt k hk).2
 | rd i=>
  simp only [Yai,Option.bind_eq_some_iff] at hk;obtain ⟨p,hp,hk⟩:=hk;exact ((h.txs p (List.mem_of_getElem? hp)).1.lt k hk).2
 | wr i=>
  simp only [Yai,Option.bind_eq_some_iff] at hk;obtain ⟨p,hp,hk⟩:=hk;exact ((h.txs p (List.mem_of_getElem? hp)).2.1.lt k hk).2
 | up i=>
  simp only [Yai,Option.bind_eq_some_iff] at hk;obtain ⟨p,hp,hk⟩:=hk;exact ((h.txs p (List.mem_of_getElem? hp)).2.2.1.lt k hk).2
theorem Yas {n:Nat} (h:w.ownsRow base e size v n xs) (hk:∀ g,v.ownBlock=some g→w'.heap[g]? = w.heap[g]?):w'.ownsRow base e size v n xs:=by
 refine ⟨h.1,?_⟩;rcases h.2 with h1 | ⟨g,cap,cur,h1,h2,h3,h4⟩
 ·exact .inl h1
 ·refine .inr ⟨g,cap,cur,h1,h2,?_,h4⟩
  rw [hk g (by rw [h1];rfl)];exact h3
theorem Yc9.off {p:TxV×TxS} (h:Yc9 w p) (hk:∀ g,p.2.vr.ownBlock=some g∨p.2.vw.ownBlock=some g∨p.2.vu.ownBlock=some g→w'.heap[g]? = w.heap[g]?):Yc9 w' p:=
 ⟨Yas h.1 (fun g hg=>hk g (.inl hg)),Yas h.2.1 (fun g hg=>hk g (.inr (.inl hg))),Yas h.2.2.1 (fun g hg=>hk g (.inr (.inr hg))),h.2.2.2⟩
theorem Yaq.rest (h:Yaq w mb n s l pairs other log)
 (hk:∀ k,k<w.heap.size→k≠mb→s.vt.ownBlock≠some k→w'.heap[k]? = w.heap[k]?):
 (∀ p∈l,Yc9 w' p)∧w'.ownsRow 0 43 2 s.vp pairs.length (Yad pairs)∧w'.ownsRow 0 43 2 s.vo other.length (Yad other)∧w'.ownsRow 0 152 9 s.vl log.length (Ybf log):=by
 have hlt:=h.lt
 have key:∀ a k,Yai mb s l a=some k→a≠.mod→a≠.opn→w'.heap[k]? = w.heap[k]?:=fun a k hb h1 h2=>
  hk k (hlt a k hb) (fun e=>h1 (h.apart a .mod k hb (by simp [Yai,e]))) (fun e=>h2 (h.apart a .opn k hb e))
 refine ⟨fun p hp=>?_,?_,?_,?_⟩
 ·obtain ⟨i,hi⟩:=List.getElem?_of_mem hp
  refine (h.txs p hp).off fun g hg=>?_
  rcases hg with hg | hg | hg
  ·exact key (.rd i) g (by simp [Yai,hi,hg]) (by simp) (by simp)
  ·exact key (.wr i) g (by simp [Yai,hi,hg]) (by simp) (by simp)
  ·exact key (.up i) g (by simp [Yai,hi,hg]) (by simp) (by simp)
 ·exact Yas h.prs fun g hg=>hk g (h.prs.lt g hg).2 (fun e=>(h.imm .mod mb rfl).1 (by rw [←e];exact hg)) (fun e=>(h.imm .opn g e).1 hg)
 ·exact Yas h.oth fun g hg=>hk g (h.oth.lt g hg).2 (fun e=>(h.imm .mod mb rfl).2 (by rw [←e];exact hg)) (fun e=>(h.imm .opn g e).2 hg)
 ·exact Yas h.lg fun g hg=>key .lg g hg (by simp) (by simp)
theorem Ymr (mb:Nat) (s:Ya4) (l:List (TxV×TxS)) (t:TxV) (a:Ybs):Yai mb s (l ++ [(t,⟨.slice none 0 0,.slice none 0 0,.slice none 0 0⟩)]) a=Yai mb s l a:=by
 have key:∀ (i:Nat) (f:TxV×TxS→Option Nat),f (t,⟨.slice none 0 0,.slice none 0 0,.slice none 0 0⟩)=none→(l ++ [(t,⟨.slice none 0 0,.slice none 0 0,.slice none 0 0⟩)])[i]?.bind f=l[i]?.bind f:=by
  intro i f hf;rcases Nat.lt_trichotomy i l.length with h | h | h
  ·rw [List.getElem?_append_left h]
  ·rw [List.getElem?_append_right (by omega),h,List.getElem?_eq_none (Nat.le_refl _)]
   simp [hf]
  ·rw [List.getElem?_eq_none (by simp;omega),List.getElem?_eq_none (by omega)]
 cases a using Ybs.elim with
 | mod=>rfl
 | opn=>rfl
 | lg=>rfl
 | rd i=>exact key i _ rfl
 | wr i=>exact key i _ rfl
 | up i=>exact key i _ rfl
theorem Yu9 (h:Yaq w mb n s l pairs other log) (vt':Value) (hat:∀ g,vt'.ownBlock=some g→s.vt.ownBlock=some g∨w.heap.size≤g):
 (∀ a b k,Yai mb { s with vt:=vt' } l a=some k→Yai mb { s with vt:=vt' } l b=some k→a=b)∧(∀ a k,Yai mb { s with vt:=vt' } l a=some k→s.vp.ownBlock≠some k∧s.vo.ownBlock≠some k) ∧
  (∀ a k,Yai mb { s with vt:=vt' } l a=some k→(∃ b,Yai mb s l b=some k)∨w.heap.size≤k):=by
 have old:∀ a k,a≠.opn→Yai mb { s with vt:=vt' } l a=some k→Yai mb s l a=some k:=by
  intro a k ha hk
  cases a using Ybs.elim <;> first | exact hk | exact absurd rfl ha
 have new:∀ k,Yai mb { s with vt:=vt' } l .opn=some k→Yai mb s l .opn=some k∨w.heap.size≤k:=fun k hk=>hat k hk
 refine ⟨fun a b k ha hb=>?_,fun a k ha=>?_,fun a k ha=>?_⟩
 ·by_cases h1:a=.opn
  ·by_cases h2:b=.opn
   ·rw [h1,h2]
   ·subst h1
    have hb':=old b k h2 hb;rcases new k ha with h3 | h3
    ·exact h.apart _ _ k h3 hb'
    ·have:=h.lt b k hb';omega
  ·have ha':=old a k h1 ha
   by_cases h2:b=.opn
   ·subst h2
    rcases new k hb with h3 | h3
    ·exact h.apart _ _ k ha' h3
    ·have:=h.lt a k ha';omega
   ·exact h.apart _ _ k ha' (old b k h2 hb)
 ·by_cases h1:a=.opn
  ·subst h1
   rcases new k ha with h3 | h3
   ·exact h.imm _ k h3
   ·exact ⟨fun e=>by have:=(h.prs.lt k e).2;omega,fun e=>by have:=(h.oth.lt k e).2;omega⟩
  ·exact h.imm a k (old a k h1 ha)
 ·by_cases h1:a=.opn
  ·subst h1
   rcases new k ha with h3 | h3
   ·exact .inl ⟨_,h3⟩
   ·exact .inr h3
  ·exact .inl ⟨a,old a k h1 ha⟩
theorem Yps:(prog.info? 200).map (fun i=>(i.zero,i.size,i.bytes))=some (some (.agg #[.int .i64 0,.int .i64 0,.slice none 0 0,.slice none 0 0,.slice none 0 0]),5,88):=by kernel_rfl
theorem Yva (mb:Nat) (n:Yaz) (vp vo vl vt:Value) (l:List (TxV×TxS)) (pairs other:Yaf) (log:List Yac) (w w2 W1:World) (O:Obj) (g c2:Nat) (h:Yaq w mb n ⟨vp,vo,vt,vl⟩ l pairs other log) (hvm:vt.ownBlock≠some mb)
 (hk2:∀ k,k<w.heap.size→k≠mb→vt.ownBlock≠some k→w2.heap[k]? = w.heap[k]?)
 (hm2:w2.heap[mb]? = some (.cells (Yc6 { n with given:=n.given+1,actions:=n.actions+1 } ⟨vp,vo,vt,vl⟩) 119 (0,0)))
 (ho2:w2.ownsRow 0 200 5 (.slice (some ⟨g,0,none⟩) (l.length+1) c2) (l.length+1) (Ya1 l ++ [.int .i64 (n.given+1),.int .i64 0,.slice none 0 0,.slice none 0 0,.slice none 0 0]))
 (hat:vt.ownBlock=some g∨g=W1.heap.size+1) (hz1:W1.heap.size=w.heap.size) (hb1:Below 0 w W1) (hg2:(W1.alloc O).drew.grownBy w2 vt.ownBlock):
 Yaq (w2.setCell ⟨mb,5,none⟩ (.slice (some ⟨g,0,none⟩) (l.length+1) c2)) mb { n with given:=n.given+1,actions:=n.actions+1 } ⟨vp,vo,.slice (some ⟨g,0,none⟩) (l.length+1) c2,vl⟩ (l ++ [({ id:=n.given+1,last:=0,read:=[],writes:=[],updates:=[] },{ vr:=.slice none 0 0,vw:=.slice none 0 0,vu:=.slice none 0 0 })]) pairs other log ∧
  Ya9 w (w2.setCell ⟨mb,5,none⟩ (.slice (some ⟨g,0,none⟩) (l.length+1) c2)) mb ⟨vp,vo,vt,vl⟩ ⟨vp,vo,.slice (some ⟨g,0,none⟩) (l.length+1) c2,vl⟩ l (l ++ [({ id:=n.given+1,last:=0,read:=[],writes:=[],updates:=[] },{ vr:=.slice none 0 0,vw:=.slice none 0 0,vu:=.slice none 0 0 })]):=by
 have hmw:=h.lt .mod mb rfl
 have hgm:g≠mb:=by
  rcases hat with hat | hat
  ·exact fun e=>hvm (by rw [hat,e])
  ·omega
 have hk3:∀ k,k<w.heap.size→k≠mb→vt.ownBlock≠some k→(w2.setCell ⟨mb,5,none⟩ (.slice (some ⟨g,0,none⟩) (l.length+1) c2)).heap[k]? = w.heap[k]?:=fun k h1 h2 h3=>
  (Below.heap_setCell _ _ _ _ h2).trans (hk2 k h1 h2 h3)
 obtain ⟨r1,r2,r3,r4⟩:=h.rest hk3
 obtain ⟨b1,b2,b3⟩:=Yu9 h (.slice (some ⟨g,0,none⟩) (l.length+1) c2) (fun g' hg'=>by
  simp [Value.ownBlock] at hg';subst hg';rcases hat with hat | hat
  ·exact .inl hat
  ·exact .inr (by omega))
 refine ⟨⟨?_,?_,?_,r2,r3,r4,?_,?_⟩,⟨?_,?_,?_,fun _ h=>.inl h⟩⟩
 ·exact (Yak _ _ 5 _ _ _ hm2).trans rfl
 ·have hc:Ya1 (l ++ [({ id:=n.given+1,last:=0,read:=[],writes:=[],updates:=[] },{ vr:=.slice none 0 0,vw:=.slice none 0 0,vu:=.slice none 0 0 })])=Ya1 l ++ [.int .i64 (n.given+1),.int .i64 0,.slice none 0 0,.slice none 0 0,.slice none 0 0]:=by simp [Ya1,Ye3]
  rw [hc,List.length_append];exact Yas ho2 (fun g' hg'=>Below.heap_setCell _ _ _ _ (show g'≠mb by simp [Value.ownBlock] at hg';omega))
 ·intro p hp
  rcases List.mem_append.1 hp with hp | hp
  ·exact r1 p hp
  ·simp at hp
   subst hp;exact ⟨World.ownsRow_nil _ _ _ _,World.ownsRow_nil _ _ _ _,World.ownsRow_nil _ _ _ _,by simp,by simp,by simp⟩
 ·intro a b k ha hb
  rw [Ymr] at ha hb;exact b1 a b k ha hb
 ·intro a k ha
  rw [Ymr] at ha;exact b2 a k ha
 ·intro k hk hno
  refine hk3 k hk (fun e=>hno .mod (by simp [Yai,e])) (fun e=>hno .opn e)
 ·intro a k ha
  rw [Ymr] at ha;exact b3 a k ha
 ·have hs:=hg2.size
  have:Below 0 w w2:=⟨hg2.os.trans hb1.os,hg2.tape.trans hb1.tape,hg2.output.trans hb1.output,by simp at hs;omega,fun k hk=>by omega⟩;exact this.setCell (p:=⟨mb,5,none⟩) (by simp) _
theorem Yvb (mb:Nat) (n:Yaz) (s:Ya4) (l:List (TxV×TxS)) (pairs other:Yaf) (log:List Yac) (w:World) (h:Yaq w mb n s l pairs other log) (hd:n.dead=false) (hl:l.length<4) (ha:n.actions<120) (ha0:0≤n.actions) (hg0:0≤n.given) (hg:n.given≤1000):
 Calls prog 93 #[.pointer (some ⟨mb,0,none⟩)] w fun e w'=>e=.returned (.tuple #[.int .i64 (n.given+1),.int .i64 0]) ∧
  ∃ vt',Yaq w' mb { n with given:=n.given+1,actions:=n.actions+1 } { s with vt:=vt' } (l ++ [({ id:=n.given+1,last:=0,read:=[],writes:=[],updates:=[] },{ vr:=.slice none 0 0,vw:=.slice none 0 0,vu:=.slice none 0 0 })]) pairs other log ∧
   Ya9 w w' mb s { s with vt:=vt' } l (l ++ [({ id:=n.given+1,last:=0,read:=[],writes:=[],updates:=[] },{ vr:=.slice none 0 0,vw:=.slice none 0 0,vu:=.slice none 0 0 })]):=by
 obtain ⟨vp,vo,vt,vl⟩:=s
 obtain ⟨ad,cap,hvt,_⟩:=Ya6 h.opn
 simp only at hvt
 subst hvt
 have c1:w.cell? ⟨mb,1,none⟩=some (.bool false):=Yaa h.cell (by rw [←hd];rfl)
 have c5:w.cell? ⟨mb,5,none⟩=some (.slice ad l.length cap):=Yaa h.cell rfl
 have c6:w.cell? ⟨mb,6,none⟩=some (.int .i64 n.given):=Yaa h.cell rfl
 have c7:w.cell? ⟨mb,7,none⟩=some (.int .i64 n.actions):=Yaa h.cell rfl
 have f5:=Yah 5 h.cell
 have f6:=Yah 6 h.cell
 have f7:=Yah 7 h.cell
 have hl':¬(4:Int)≤(l.length:Int):=by omega
 have ha':¬(120:Int)≤n.actions:=by omega
 have HH:=Yh h
 clear h
 go_enter func93,ntmps93
 go_wp2
 obtain ⟨W1,hW1⟩:∃ W1,W1=(w.setCell ⟨mb,7,none⟩ (.int .i64 (n.actions+1))).setCell ⟨mb,6,none⟩ (.int .i64 (n.given+1)):=⟨_,rfl⟩
 rw [←hW1]
 have hm1:W1.heap[mb]? = some (.cells (Yc6 { n with given:=n.given+1,actions:=n.actions+1 } ⟨vp,vo,.slice ad l.length cap,vl⟩) 119 (0,0)):=by
  rw [hW1];exact (Yak _ _ 6 _ _ _ (Yak _ _ 7 _ _ _ HH.out.cell)).trans rfl
 have ho1:∀ k,k≠mb→W1.heap[k]? = w.heap[k]?:=fun k hk=>by
  rw [hW1];exact (Below.heap_setCell _ _ _ _ hk).trans (Below.heap_setCell _ _ _ _ hk)
 have hb1:Below 0 w W1:=by rw [hW1];exact ((Below.refl _ _).setCell (p:=⟨mb,7,none⟩) (by simp) _).setCell (p:=⟨mb,6,none⟩) (by simp) _
 have hz1:W1.heap.size=w.heap.size:=by rw [hW1];simp
 have hvm:(Value.slice ad l.length cap).ownBlock≠some mb:=fun h=>by
  have:=HH.out.apart .opn .mod mb h rfl
  cases this
 have hoW:W1.ownsRow 0 200 5 (.slice ad l.length cap) l.length (Ya1 l):=Yas HH.out.opn (fun g hg=>ho1 g (fun e=>hvm (by rw [←e];exact hg)))
 have d5:W1.cell? ⟨mb,5,none⟩=some (.slice ad l.length cap):=Yaa hm1 rfl
 have d6:W1.cell? ⟨mb,6,none⟩=some (.int .i64 (n.given+1)):=Yaa hm1 rfl
 have g5:=Yah 5 hm1
 have hmw:mb<W1.heap.size:=Yaj hm1
 have HM1:=Yh hm1
 have HO1:=Yh ho1
 have HB1:=Yh hb1
 have HZ1:=Yh hz1
 have HOW:=Yh hoW
 obtain ⟨i0,hi0,hx0,hx1,hx2⟩:=info_parts Yps
 clear hW1 hm1 ho1 hb1 hz1 hoW c1 c5 c6 c7 f5 f6 f7
 go_region_law (first
  | (
   refine step_append_lies _ ?hgd (.tmp 40) (.tmp 46) 117 ?hop 0 200 i0 _ 5 88 underlying117 hi0 hx0 hx1 hx2 rfl (by omega) (.slice ad l.length cap) l.length (Ya1 l) ?hs (World.ownsRow.alloc (w:=W1.drew) HOW.out _) ⟨W1.heap.size,0,none⟩ 1 1 [.int .i64 (n.given+1),.int .i64 0,.slice none 0 0,.slice none 0 0,.slice none 0 0] ?hx rfl ?hnews ?h1 (by omega) (by unfold maxLen;omega) (by omega) (by omega) (W1.heap.size+1) ?hH ?_
   case hgd=>rfl
   case hop=>rfl
   case hs=>go_simp
   case hx=>go_simp
   case hnews=>intro j u hu;rw [Ydf];exact Yaa (heap_alloc_new W1.drew _) (by simpa using hu)
   case h1=>intro u hu;simp at hu;rcases hu with rfl | rfl | rfl <;> rfl
   case hH=>simp
   intro g c2 w2 ho2 hg2 hat hlt2;have hk2:∀ k,k<w.heap.size→k≠mb→(Value.slice ad l.length cap).ownBlock≠some k→w2.heap[k]? = w.heap[k]?:=fun k h1 h2 h3=>by
    have hz:=HZ1.out;exact (hg2.block k (by simp;omega) (fun e=>h3 e.symm)).trans ((Below.heap_alloc W1 _ k (by omega)).trans (HO1.out k h2))
   have hm2:=(hg2.block mb (by simp;omega) (fun e=>hvm e.symm)).trans ((Below.heap_alloc W1 _ mb hmw).trans HM1.out);have HFIN:Hid (Yaq (w2.setCell ⟨mb,5,none⟩ (.slice (some ⟨g,0,none⟩) (l.length+1) c2)) mb { n with given:=n.given+1,actions:=n.actions+1 } ⟨vp,vo,.slice (some ⟨g,0,none⟩) (l.length+1) c2,vl⟩ (l ++ [({ id:=n.given+1,last:=0,read:=[],writes:=[],updates:=[] },{ vr:=.slice none 0 0,vw:=.slice none 0 0,vu:=.slice none 0 0 })]) pairs other log ∧
    Ya9 w (w2.setCell ⟨mb,5,none⟩ (.slice (some ⟨g,0,none⟩) (l.length+1) c2)) mb ⟨vp,vo,.slice ad l.length cap,vl⟩ ⟨vp,vo,.slice (some ⟨g,0,none⟩) (l.length+1) c2,vl⟩ l (l ++ [({ id:=n.given+1,last:=0,read:=[],writes:=[],updates:=[] },{ vr:=.slice none 0 0,vw:=.slice none 0 0,vu:=.slice none 0 0 })])):=
    Yva mb n vp vo vl (.slice ad l.length cap) l pairs other log w w2 W1 _ g c2 HH.out hvm hk2 hm2 ho2 hat HZ1.out HB1.out hg2
   have e5:w2.cell? ⟨mb,5,none⟩=some (.slice ad l.length cap):=Yaa hm2 rfl;have e6:w2.cell? ⟨mb,6,none⟩=some (.int .i64 (n.given+1)):=Yaa hm2 rfl;have k5:=Yah 5 hm2;clear ho2 hg2 hat hlt2 hk2 hm2))
 all_goals
  go_wp2;go_ret2;exact ⟨rfl,_,HFIN.out⟩
def Yfh (n:Yaz) (len:Nat):Int:=if n.dead then 3 else if 4≤len then 9 else if 120≤n.actions then 10 else 0
theorem Yvc (mb:Nat) (n:Yaz) (s:Ya4) (l:List (TxV×TxS)) (pairs other:Yaf) (log:List Yac) (w:World) (h:Yaq w mb n s l pairs other log) (he:Yfh n l.length≠0):
 Calls prog 93 #[.pointer (some ⟨mb,0,none⟩)] w fun e w'=>e=.returned (.tuple #[.int .i64 0,.int .i64 (Yfh n l.length)])∧w=w':=by
 obtain ⟨vp,vo,vt,vl⟩:=s
 obtain ⟨ad,cap,hvt,_⟩:=Ya6 h.opn
 simp only at hvt
 subst hvt
 have c1:w.cell? ⟨mb,1,none⟩=some (.bool n.dead):=Yaa h.cell rfl
 have c5:w.cell? ⟨mb,5,none⟩=some (.slice ad l.length cap):=Yaa h.cell rfl
 have c7:w.cell? ⟨mb,7,none⟩=some (.int .i64 n.actions):=Yaa h.cell rfl
 clear h
 cases hd:n.dead with
 | true=>
  rw [hd] at c1;have HE:Hid (Yfh n l.length=3):=by show _=_;simp [Yfh,hd]
  clear he;go_enter func93,ntmps93;go_wp2;go_ret2;exact ⟨by rw [HE.out];rfl,rfl⟩
 | false=>
  rw [hd] at c1;by_cases h4:4≤l.length
  ·have h4':(4:Int)≤(l.length:Int):=by omega
   have HE:Hid (Yfh n l.length=9):=by show _=_;simp [Yfh,hd,h4]
   clear he;go_enter func93,ntmps93;go_wp2;go_ret2;exact ⟨by rw [HE.out];rfl,rfl⟩
  ·have h4':¬(4:Int)≤(l.length:Int):=by omega
   by_cases ha:120≤n.actions
   ·have HE:Hid (Yfh n l.length=10):=by show _=_;simp [Yfh,hd,h4,ha]
    clear he;go_enter func93,ntmps93;go_wp2;go_ret2;exact ⟨by rw [HE.out];rfl,rfl⟩
   ·exact absurd (by simp [Yfh,hd,h4,ha]) he
theorem Yms (h:Yaq w mb n s l pairs other log) (i:Nat) (p p':TxV×TxS) (hi:l[i]? = some p)
 (hr:∀ g,p'.2.vr.ownBlock=some g→p.2.vr.ownBlock=some g∨w.heap.size≤g∧p'.2.vw.ownBlock≠some g∧p'.2.vu.ownBlock≠some g)
 (hw:∀ g,p'.2.vw.ownBlock=some g→p.2.vw.ownBlock=some g∨w.heap.size≤g∧p'.2.vr.ownBlock≠some g∧p'.2.vu.ownBlock≠some g)
 (hu:∀ g,p'.2.vu.ownBlock=some g→p.2.vu.ownBlock=some g∨w.heap.size≤g∧p'.2.vr.ownBlock≠some g∧p'.2.vw.ownBlock≠some g):
 (∀ a b k,Yai mb s (l.set i p') a=some k→Yai mb s (l.set i p') b=some k→a=b)∧(∀ a k,Yai mb s (l.set i p') a=some k→s.vp.ownBlock≠some k∧s.vo.ownBlock≠some k) ∧
  (∀ a k,Yai mb s (l.set i p') a=some k→(∃ b,Yai mb s l b=some k)∨w.heap.size≤k):=by
 have hil:i<l.length:=(List.getElem?_eq_some_iff.1 hi).1
 have key:∀ a k,Yai mb s (l.set i p') a=some k→Yai mb s l a=some k∨(w.heap.size≤k∧∀ b,Yai mb s (l.set i p') b=some k→a=b):=by
  intro a k ha;have gets:∀ j,(l.set i p')[j]? = if j=i then some p' else l[j]?:=fun j=>by
   by_cases hj:j=i
   ·subst hj;simp [hil]
   ·rw [if_neg hj,List.getElem?_set_ne (fun e=>hj e.symm)]
  have old:∀ b,Yai mb s (l.set i p') b=some k→w.heap.size≤k→b=.rd i∨b=.wr i∨b=.up i:=by
   intro b hb hk
   cases b using Ybs.elim with
   | mod=>have:=h.lt .mod k hb;omega
   | opn=>have:=h.lt .opn k hb;omega
   | lg=>have:=h.lt .lg k hb;omega
   | rd j=>
    by_cases hj:j=i
    ·subst hj;exact .inl rfl
    ·have hb':Yai mb s l (.rd j)=some k:=by simpa [Yai,gets,hj] using hb
     have:=h.lt _ k hb';omega
   | wr j=>
    by_cases hj:j=i
    ·subst hj;exact .inr (.inl rfl)
    ·have hb':Yai mb s l (.wr j)=some k:=by simpa [Yai,gets,hj] using hb
     have:=h.lt _ k hb';omega
   | up j=>
    by_cases hj:j=i
    ·subst hj;exact .inr (.inr rfl)
    ·have hb':Yai mb s l (.up j)=some k:=by simpa [Yai,gets,hj] using hb
     have:=h.lt _ k hb';omega
  have er:Yai mb s (l.set i p') (.rd i)=p'.2.vr.ownBlock:=by simp [Yai,gets]
  have ew:Yai mb s (l.set i p') (.wr i)=p'.2.vw.ownBlock:=by simp [Yai,gets]
  have eu:Yai mb s (l.set i p') (.up i)=p'.2.vu.ownBlock:=by simp [Yai,gets]
  cases a using Ybs.elim with
  | mod=>exact .inl ha
  | opn=>exact .inl ha
  | lg=>exact .inl ha
  | rd j=>
   by_cases hj:j=i
   ·subst hj
    rw [er] at ha;rcases hr k ha with h1 | ⟨h1,h2,h3⟩
    ·exact .inl (by simp [Yai,hi,h1])
    ·refine .inr ⟨h1,fun b hb=>?_⟩
     rcases old b hb h1 with rfl | rfl | rfl
     ·rfl
     ·rw [ew] at hb;exact absurd hb h2
     ·rw [eu] at hb;exact absurd hb h3
   ·exact .inl (by simpa [Yai,gets,hj] using ha)
  | wr j=>
   by_cases hj:j=i
   ·subst hj
    rw [ew] at ha;rcases hw k ha with h1 | ⟨h1,h2,h3⟩
    ·exact .inl (by simp [Yai,hi,h1])
    ·refine .inr ⟨h1,fun b hb=>?_⟩
     rcases old b hb h1 with rfl | rfl | rfl
     ·rw [er] at hb;exact absurd hb h2
     ·rfl
     ·rw [eu] at hb;exact absurd hb h3
   ·exact .inl (by simpa [Yai,gets,hj] using ha)
  | up j=>
   by_cases hj:j=i
   ·subst hj
    rw [eu] at ha;rcases hu k ha with h1 | ⟨h1,h2,h3⟩
    ·exact .inl (by simp [Yai,hi,h1])
    ·refine .inr ⟨h1,fun b hb=>?_⟩
     rcases old b hb h1 with rfl | rfl | rfl
     ·rw [er] at hb;exact absurd hb h2
     ·rw [ew] at hb;exact absurd hb h3
     ·rfl
   ·exact .inl (by simpa [Yai,gets,hj] using ha)
 refine ⟨fun a b k ha hb=>?_,fun a k ha=>?_,fun a k ha=>?_⟩
 ·rcases key a k ha with h1 | ⟨h1,h2⟩
  ·rcases key b k hb with h3 | ⟨h3,h4⟩
   ·exact h.apart a b k h1 h3
   ·exact (h4 a ha).symm
  ·exact h2 b hb
 ·rcases key a k ha with h1 | ⟨h1,_⟩
  ·exact h.imm a k h1
  ·exact ⟨fun e=>by have:=(h.prs.lt k e).2;omega,fun e=>by have:=(h.oth.lt k e).2;omega⟩
 ·rcases key a k ha with h1 | ⟨h1,_⟩
  ·exact .inl ⟨a,h1⟩
  ·exact .inr h1
theorem Ydx {g n cap:Nat} (h:w.ownsRow base e size (.slice (some ⟨g,0,none⟩) n cap) n xs) (j:Nat) (u:Value):
 (w.setCell ⟨g,j,none⟩ u).ownsRow base e size (.slice (some ⟨g,0,none⟩) n cap) n (xs.set j u):=by
 rcases h.2 with ⟨h1,_⟩ | ⟨g',cap',cur,h1,h2,h3,h4,h5,h6,h7⟩
 ·cases h1
 ·simp at h1
  obtain ⟨rfl,rfl⟩:=h1;refine ⟨by simpa using h.1,.inr ⟨g,cap,_,rfl,h2,Yak w g j u cur e h3,h4,h5,by simpa using h6,?_⟩⟩;rw [Array.toList_setIfInBounds,←h7,List.take_set]
theorem Yk7:∀ (l:List (TxV×TxS)) (i:Nat) (p p':TxV×TxS) (j:Nat) (u:Value),l[i]? = some p→(Ye3 p).set j u=Ye3 p'→j<5→(Ya1 l).set (i*5+j) u=Ya1 (l.set i p')
 | [],i,p,p',j,u,h,_,_=>by simp at h
 | q :: r,0,p,p',j,u,h,hs,hj=>by
  simp at h;subst h;have hl:(Ye3 q).length=5:=rfl;simp only [Ya1,List.flatMap_cons,List.set_cons_zero,Nat.zero_mul,Nat.zero_add];rw [List.set_append_left _ _ (by omega),hs]
 | q :: r,i+1,p,p',j,u,h,hs,hj=>by
  have ih:=Yk7 r i p p' j u (by simpa using h) hs hj;have hl:(Ye3 q).length=5:=rfl;simp only [Ya1,List.flatMap_cons,List.set_cons_succ] at ih ⊢;rw [List.set_append_right _ _ (by omega),hl,show (i+1)*5+j - 5=i*5+j by omega,ih]
theorem Yaq.below (h:Yaq w mb n s l pairs other log) (hb:Below w.heap.size w w'):Yaq w' mb n s l pairs other log:=
 ⟨(hb.block mb (h.lt .mod mb rfl)).trans h.cell,Ybe h.opn hb (fun g hg=>(h.opn.lt g hg).2),fun p hp=>(h.txs p hp).below hb (Nat.le_refl _),Ybe h.prs hb (fun g hg=>(h.prs.lt g hg).2),Ybe h.oth hb (fun g hg=>(h.oth.lt g hg).2),Ybe h.lg hb (fun g hg=>(h.lg.lt g hg).2),h.apart,h.imm⟩
theorem Yvd:(prog.info? 9).map (fun i=>(i.zero,i.size,i.bytes))=some (some (.string ByteArray.empty),1,16):=by kernel_rfl
theorem Yaq.rest1 (h:Yaq w mb n s l pairs other log) (c:Ybs)
 (hk:∀ k,k<w.heap.size→Yai mb s l .opn≠some k→Yai mb s l c≠some k→w'.heap[k]? = w.heap[k]?):
 (∀ a k,a≠.opn→a≠c→Yai mb s l a=some k→w'.heap[k]? = w.heap[k]?)∧w'.ownsRow 0 43 2 s.vp pairs.length (Yad pairs)∧w'.ownsRow 0 43 2 s.vo other.length (Yad other):=by
 refine ⟨fun a k h1 h2 hb=>hk k (h.lt a k hb) (fun e=>h1 (h.apart a .opn k hb e)) (fun e=>h2 (h.apart a c k hb e)),?_,?_⟩
 ·exact Yas h.prs fun g hg=>hk g (h.prs.lt g hg).2 (fun e=>(h.imm _ g e).1 hg) (fun e=>(h.imm _ g e).1 hg)
 ·exact Yas h.oth fun g hg=>hk g (h.oth.lt g hg).2 (fun e=>(h.imm _ g e).2 hg) (fun e=>(h.imm _ g e).2 hg)
theorem Yaq.off (h:Yaq w mb n s l pairs other log) (hk:∀ k,k<w.heap.size→(∃ a,Yai mb s l a=some k)∨s.vp.ownBlock=some k∨s.vo.ownBlock=some k→w'.heap[k]? = w.heap[k]?):Yaq w' mb n s l pairs other log:=by
 have key:∀ a k,Yai mb s l a=some k→w'.heap[k]? = w.heap[k]?:=fun a k hb=>hk k (h.lt a k hb) (.inl ⟨a,hb⟩)
 refine ⟨(key .mod mb rfl).trans h.cell,Yas h.opn (fun k hb=>key .opn k hb),fun p hp=>?_,Yas h.prs (fun k hb=>hk k (h.prs.lt k hb).2 (.inr (.inl hb))),Yas h.oth (fun k hb=>hk k (h.oth.lt k hb).2 (.inr (.inr hb))),Yas h.lg (fun k hb=>key .lg k hb),h.apart,h.imm⟩;obtain ⟨i,hi⟩:=List.getElem?_of_mem hp;refine (h.txs p hp).off fun k hb=>?_
 rcases hb with hb | hb | hb
 ·exact key (.rd i) k (by simp [Yai,hi,hb])
 ·exact key (.wr i) k (by simp [Yai,hi,hb])
 ·exact key (.up i) k (by simp [Yai,hi,hb])
theorem Ya9.wide {w2 w3:World} {s':Ya4} (hb:Below w.heap.size w w1) (h:Ya9 w1 w2 mb s s' l l') (hk:∀ k,k<w.heap.size→w3.heap[k]? = w2.heap[k]?) (hb3:Below 0 w2 w3):Ya9 w w3 mb s s' l l':=
 ⟨fun k h1 h2=>(hk k h1).trans ((h.kept k (by have:=hb.size;omega) h2).trans (hb.block k h1)),fun a k ha=>(h.blks a k ha).imp id (fun h1=>by have:=hb.size;omega),(hb.mono (Nat.zero_le _)).trans (h.below.trans hb3),fun k hk=>(h.imm k hk).imp id (fun h1=>by have:=hb.size;omega)⟩
theorem Yve {W3 w5:World} (h0:Yaq w mb n s l pairs other log) (hb1:Below w.heap.size w w1) (hw1:w.heap.size<w1.heap.size) (hm:Yaq W3 mb n s l' pairs other log) (hst:Ya9 w1 W3 mb s s l l') (hb5:Below W3.heap.size W3 w5) (u0 u1:Value):
 Yaq ((w5.setCell ⟨w.heap.size,0,none⟩ u0).setCell ⟨w.heap.size,1,none⟩ u1) mb n s l' pairs other log∧Ya9 w ((w5.setCell ⟨w.heap.size,0,none⟩ u0).setCell ⟨w.heap.size,1,none⟩ u1) mb s s l l':=by
 have hk:∀ k,k≠w.heap.size→((w5.setCell ⟨w.heap.size,0,none⟩ u0).setCell ⟨w.heap.size,1,none⟩ u1).heap[k]? = w5.heap[k]?:=fun k h=>
  (Below.heap_setCell _ _ _ _ h).trans (Below.heap_setCell _ _ _ _ h)
 have hbf:Below 0 w5 ((w5.setCell ⟨w.heap.size,0,none⟩ u0).setCell ⟨w.heap.size,1,none⟩ u1):=((Below.refl _ _).setCell (p:=⟨w.heap.size,0,none⟩) (by simp) _).setCell (p:=⟨w.heap.size,1,none⟩) (by simp) _
 have hs3:=hst.below.size
 refine ⟨hm.off fun k hlt hor=>?_,hst.wide hb1 (fun k hlt=>?_) ((hb5.mono (Nat.zero_le _)).trans hbf)⟩
 ·refine (hk k ?_).trans (hb5.block k hlt)
  rcases hor with ⟨a,ha⟩ | h | h
  ·intro e
   subst e;rcases hst.blks a _ ha with ⟨b,hb⟩ | h
   ·have:=h0.lt b _ hb;omega
   ·omega
  ·intro e;subst e;have:=(h0.prs.lt _ h).2;omega
  ·intro e;subst e;have:=(h0.oth.lt _ h).2;omega
 ·exact (hk k (by omega)).trans (hb5.block k (by omega))
theorem Yvf (mb:Nat) (n:Yaz) (s:Ya4) (l:List (TxV×TxS)) (pairs other:Yaf) (log:List Yac) (i:Nat) (p:TxV×TxS) (key:ByteArray) (w1 w2:World) (O:Obj) (g cap g2 c2:Nat) (h:Yaq w1 mb n s l pairs other log) (hi:l[i]? = some p) (hvt:s.vt=.slice (some ⟨g,0,none⟩) l.length cap) (hrl:p.1.read.length≤1999999999999)
 (ho2:w2.ownsRow 0 9 1 (.slice (some ⟨g2,0,none⟩) (p.1.read.length+1) c2) (p.1.read.length+1) (p.1.read.map Value.string ++ [.string key]))
 (hg2:(w1.alloc O).drew.grownBy w2 p.2.vr.ownBlock) (hat:p.2.vr.ownBlock=some g2∨g2=w1.heap.size+1):
 Yaq (w2.setCell ⟨g,i*5+2,none⟩ (.slice (some ⟨g2,0,none⟩) (p.1.read.length+1) c2)) mb n s (l.set i ({ p.1 with read:=p.1.read ++ [key] },{ p.2 with vr:=.slice (some ⟨g2,0,none⟩) (p.1.read.length+1) c2 })) pairs other log ∧
  Ya9 w1 (w2.setCell ⟨g,i*5+2,none⟩ (.slice (some ⟨g2,0,none⟩) (p.1.read.length+1) c2)) mb s s l (l.set i ({ p.1 with read:=p.1.read ++ [key] },{ p.2 with vr:=.slice (some ⟨g2,0,none⟩) (p.1.read.length+1) c2 })):=by
 have hil:i<l.length:=(List.getElem?_eq_some_iff.1 hi).1
 have hog:Yai mb s l .opn=some g:=by simp [Yai,hvt,Value.ownBlock]
 have hgw:=h.lt _ _ hog
 have hrd:∀ k,p.2.vr.ownBlock=some k→Yai mb s l (.rd i)=some k:=fun k hk=>by simp [Yai,hi,hk]
 have hgr:p.2.vr.ownBlock≠some g:=fun e=>by have:=h.apart _ _ _ (hrd g e) hog;cases this
 have hg2g:g2≠g:=by
  rcases hat with hat | hat
  ·exact fun e=>hgr (by rw [hat,e])
  ·omega
 have hk2:∀ k,k<w1.heap.size→p.2.vr.ownBlock≠some k→w2.heap[k]? = w1.heap[k]?:=fun k h1 h2=>
  (hg2.block k (by simp;omega) (fun e=>h2 e.symm)).trans (Below.heap_alloc w1 _ k h1)
 have hk3:∀ k,k<w1.heap.size→k≠g→p.2.vr.ownBlock≠some k→(w2.setCell ⟨g,i*5+2,none⟩ (.slice (some ⟨g2,0,none⟩) (p.1.read.length+1) c2)).heap[k]? = w1.heap[k]?:=fun k h1 h2 h3=>
  (Below.heap_setCell _ _ _ _ h2).trans (hk2 k h1 h3)
 obtain ⟨r1,r2,r3⟩:=h.rest1 (w':=w2.setCell ⟨g,i*5+2,none⟩ (.slice (some ⟨g2,0,none⟩) (p.1.read.length+1) c2)) (.rd i) (fun k h1 h2 h3=>hk3 k h1 (fun e=>h2 (by rw [e];exact hog)) (fun e=>h3 (hrd k e)))
 have tw:Yc9 w1 p:=h.txs p (List.mem_of_getElem? hi)
 obtain ⟨b1,b2,b3⟩:=Yms h i p ({ p.1 with read:=p.1.read ++ [key] },{ p.2 with vr:=.slice (some ⟨g2,0,none⟩) (p.1.read.length+1) c2 }) hi
  (fun k hk=>by
   simp [Value.ownBlock] at hk;subst hk;rcases hat with hat | hat
   ·exact .inl hat
   ·exact .inr ⟨by omega,fun e=>by have:=(tw.2.1.lt _ e).2;omega,fun e=>by have:=(tw.2.2.1.lt _ e).2;omega⟩)
  (fun k hk=>.inl hk) (fun k hk=>.inl hk)
 refine ⟨⟨?_,?_,?_,r2,r3,?_,b1,b2⟩,⟨?_,b3,?_,fun _ h=>.inl h⟩⟩
 ·exact (r1 .mod mb (by simp) (by simp) rfl).trans h.cell
 ·have hop:=h.opn
  rw [hvt] at hop ⊢;have hop2:=Yas (w':=w2) hop (fun k hk=>by
   simp [Value.ownBlock] at hk;subst hk;exact hk2 g hgw hgr)
  have:=Ydx hop2 (i*5+2) (.slice (some ⟨g2,0,none⟩) (p.1.read.length+1) c2);rw [Yk7 l i p ({ p.1 with read:=p.1.read ++ [key] },{ p.2 with vr:=.slice (some ⟨g2,0,none⟩) (p.1.read.length+1) c2 }) 2 _ hi rfl (by omega)] at this;rw [List.length_set];exact this
 ·intro q hq
  obtain ⟨j,hj⟩:=List.getElem?_of_mem hq;by_cases hji:j=i
  ·subst hji
   rw [List.getElem?_set_self hil] at hj;simp at hj;subst hj;refine ⟨?_,Yas tw.2.1 (fun k hk=>r1 (.wr j) k (by simp) (by simp) (by simp [Yai,hi,hk])),Yas tw.2.2.1 (fun k hk=>r1 (.up j) k (by simp) (by simp) (by simp [Yai,hi,hk])),by simp;omega,tw.2.2.2.2.1,tw.2.2.2.2.2⟩;have:=Yas (w':=w2.setCell ⟨g,j*5+2,none⟩ (.slice (some ⟨g2,0,none⟩) (p.1.read.length+1) c2)) ho2 (fun k hk=>Below.heap_setCell _ _ _ _ (by
    simp [Value.ownBlock] at hk;subst hk;exact hg2g))
   simpa using this
  ·rw [List.getElem?_set_ne (fun e=>hji e.symm)] at hj
   refine (h.txs q (List.mem_of_getElem? hj)).off fun k hk=>?_
   rcases hk with hk | hk | hk
   ·exact r1 (.rd j) k (by simp) (by simp [hji]) (by simp [Yai,hj,hk])
   ·exact r1 (.wr j) k (by simp) (by simp) (by simp [Yai,hj,hk])
   ·exact r1 (.up j) k (by simp) (by simp) (by simp [Yai,hj,hk])
 ·exact Yas h.lg (fun k hk=>r1 .lg k (by simp) (by simp) hk)
 ·intro k hk hno
  exact hk3 k hk (fun e=>hno .opn (by rw [e];exact hog)) (fun e=>hno (.rd i) (hrd k e))
 ·have hs:=hg2.size
  have:Below 0 w1 w2:=⟨hg2.os,hg2.tape,hg2.output,by simp at hs;omega,fun k hk=>by omega⟩;exact this.setCell (p:=⟨g,i*5+2,none⟩) (by simp) _
theorem Yvg (mb:Nat) (n:Yaz) (s:Ya4) (l:List (TxV×TxS)) (pairs other:Yaf) (log:List Yac) (t:Int) (key:ByteArray) (i:Nat) (p:TxV×TxS) (w:World) (h:Yaq w mb n s l pairs other log) (hd:n.dead=false) (hf:Ya5 l t=some i) (hi:l[i]? = some p)
 (hk1:1≤key.size) (hk8:key.size≤8) (hlk:Ycp l t key false=false) (hll:l.length≤10) (hrl:p.1.read.length≤1999999999999):
 Calls prog 94 #[.pointer (some ⟨mb,0,none⟩),.int .i64 t,.string key] w fun e w'=>e=.returned (.tuple #[.agg #[.bool (Ycb p.1 pairs key).1,.string (Ycb p.1 pairs key).2],.int .i64 0]) ∧
  ∃ vr',Yaq w' mb n s (l.set i ({ p.1 with read:=p.1.read ++ [key] },{ p.2 with vr:=vr' })) pairs other log∧Ya9 w w' mb s s l (l.set i ({ p.1 with read:=p.1.read ++ [key] },{ p.2 with vr:=vr' })):=by
 have hil:i<l.length:=(List.getElem?_eq_some_iff.1 hi).1
 have ha:Yca n.dead (Ya5 l t) key=((i:Int),0):=by simp only [Yca,hd,hf];rw [if_neg (by simp),if_neg (by omega)]
 have HA:=Yh ha
 have HL:=Yh hlk
 have HH:=Yh h
 clear h ha hlk
 go_enter func94,ntmps94
 have HB0:Hid (Below w.heap.size w (w.alloc (.cells #[.bool false,.string ByteArray.empty] 38))):=(Below.refl _ _).alloc (Nat.le_refl _) _
 have HN0:Hid ((w.alloc (.cells #[.bool false,.string ByteArray.empty] 38)).heap[w.heap.size]? = some (.cells #[.bool false,.string ByteArray.empty] 38 (0,0))):=heap_alloc_new w _
 go_wp2_with (first
  | (go_at_call 129;go_must (
   have H0:=HH.out.below HB0.out;refine (Yfz mb n s l t key _ H0.cell H0.opn (by omega)).mono ?_;rw [HA.out];rintro e w' ⟨rfl,rfl⟩;clear H0))
  | (go_at_call 130;go_must (
   have H0:=HH.out.below HB0.out;refine (Yhy mb n s l t key false _ H0.cell H0.opn H0.txs (by omega)).mono ?_;rw [HL.out];rintro e w1 ⟨rfl,hb1⟩;have HB1:Hid (Below w.heap.size w w1):=HB0.out.trans (hb1.mono HB0.out.size);have HN1:Hid (w1.heap[w.heap.size]? = some (.cells #[.bool false,.string ByteArray.empty] 38 (0,0))):=(hb1.block _ (by simp)).trans HN0.out;clear H0 hb1)))
 obtain ⟨vp,vo,vt,vl⟩:=s
 obtain ⟨g,cap,hvt⟩:=Ybn HH.out.opn (by omega)
 simp only at hvt
 subst hvt
 obtain ⟨ar,cr,hvr,_⟩:=Ya6 (HH.out.txs p (List.mem_of_getElem? hi)).1
 have H1:Yaq w1 mb n ⟨vp,vo,.slice (some ⟨g,0,none⟩) l.length cap,vl⟩ l pairs other log:=HH.out.below HB1.out
 have HOLD:Hid (Yc9 w p):=HH.out.txs p (List.mem_of_getElem? hi)
 have HOLD2:Hid (w.ownsRow 0 200 5 (.slice (some ⟨g,0,none⟩) l.length cap) l.length (Ya1 l)):=HH.out.opn
 have HALL:=Yh HH.out
 have c5:w1.cell? ⟨mb,5,none⟩=some (.slice (some ⟨g,0,none⟩) l.length cap):=Yaa H1.cell rfl
 have c2:w1.cell? ⟨g,i*5+2,none⟩=some (.slice ar p.1.read.length cr):=(Yal H1.opn (Yb4 l i p hi 2 _ rfl)).trans (by rw [hvr])
 have hmw:mb<w1.heap.size:=H1.lt .mod mb rfl
 have hgw:g<w1.heap.size:=H1.lt .opn g rfl
 have hil':(i:Int)<(l.length:Int):=by omega
 have HR:Hid (w1.ownsRow 0 9 1 (.slice ar p.1.read.length cr) p.1.read.length (p.1.read.map Value.string)):=by
  have:=(H1.txs p (List.mem_of_getElem? hi)).1;rw [hvr] at this;exact this
 have HH1:=Yh H1
 have hgm:g≠mb:=fun e=>by have:=H1.apart .opn .mod mb (by simp [Yai,Value.ownBlock,e]) rfl;cases this
 have hrm:p.2.vr.ownBlock≠some mb:=fun e=>by have:=H1.apart (.rd i) .mod mb (by simp [Yai,hi,e]) rfl;cases this
 have hrg:p.2.vr.ownBlock≠some g:=fun e=>by have:=H1.apart (.rd i) .opn g (by simp [Yai,hi,e]) rfl;cases this
 have HVR:=Yh hvr
 obtain ⟨cur,hcur⟩:∃ cur,w1.heap[g]? = some (.cells cur 200 (0,0)):=by
  rcases H1.opn.2 with ⟨hh,_⟩ | ⟨g',cap',cur,hh,_,hh3,_⟩
  ·cases hh
  ·simp at hh
   obtain ⟨rfl,_⟩:=hh;exact ⟨cur,hh3⟩
 have HGB:=Yh hcur
 have hwr:p.2.vr.ownBlock≠some w.heap.size:=fun e=>by
  have:=(HOLD.out.1.lt _ e).2;omega
 have hwg:w.heap.size≠g:=fun e=>by have:=(HOLD2.out.lt g rfl).2;omega
 have hww:w.heap.size<w1.heap.size:=Yaj HN1.out
 clear hcur
 obtain ⟨i0,hi0,hx0,hx1,hx2⟩:=info_parts Yvd
 clear hvr H1 HH HA HL HB0 HN0
 go_region_law (first
  | (
   refine step_append_lies _ ?hgd (.tmp 40) (.tmp 42) 173 ?hop 0 9 i0 _ 1 16 underlying173 hi0 hx0 hx1 hx2 rfl (by omega) (.slice ar p.1.read.length cr) p.1.read.length (p.1.read.map Value.string) ?hs (World.ownsRow.alloc (w:=w1.drew) HR.out _) ⟨w1.heap.size,0,none⟩ 1 1 [.string key] ?hx rfl ?hnews ?h1 (by omega) (by unfold maxLen;omega) (by omega) (by omega) (w1.heap.size+1) ?hH ?_
   case hgd=>rfl
   case hop=>rfl
   case hs=>go_simp
   case hx=>go_simp
   case hnews=>intro j u hu;rw [Ydf];exact Yaa (heap_alloc_new w1.drew _) (by simpa using hu)
   case h1=>intro u hu;simp at hu;subst hu;rfl
   case hH=>simp
   intro g2 cc w2 ho2 hg2 hat hlt2;rw [←HVR.out] at hg2 hat;have HFIN:=Yh (Yvf mb n ⟨vp,vo,.slice (some ⟨g,0,none⟩) l.length cap,vl⟩ l pairs other log i p key w1 w2 _ g cap g2 cc HH1.out hi rfl hrl ho2 hg2 hat);have e2:w2.cell? ⟨g,i*5+2,none⟩=some (.slice ar p.1.read.length cr):=by
    rw [World.cell?_of_block (a:=⟨g,i*5+2,none⟩) ((hg2.block g (by simp;omega) (fun e=>hrg e.symm)).trans (Below.heap_alloc w1 _ g hgw))];exact c2
   have k2:w2.frozen? ⟨g,i*5+2,none⟩=false:=by
    exact Yah _ ((hg2.block g (by simp;omega) (fun e=>hrg e.symm)).trans ((Below.heap_alloc w1 _ g hgw).trans HGB.out))
   have e5:w2.cell? ⟨mb,5,none⟩=some (.slice (some ⟨g,0,none⟩) l.length cap):=Yaa ((hg2.block mb (by simp;omega) (fun e=>hrm e.symm)).trans ((Below.heap_alloc w1 _ mb hmw).trans HH1.out.cell)) rfl;have HN2:Hid ((w2.setCell ⟨g,i*5+2,none⟩ (.slice (some ⟨g2,0,none⟩) (p.1.read.length+1) cc)).heap[w.heap.size]? = some (.cells #[.bool false,.string ByteArray.empty] 38 (0,0))):=
    (Below.heap_setCell _ _ _ _ hwg).trans ((hg2.block w.heap.size (by simp;omega) (fun e=>hwr e.symm)).trans ((Below.heap_alloc w1 _ _ hww).trans HN1.out))
   clear ho2 hg2 hat hlt2))
 all_goals
  obtain ⟨W3,hW3⟩:∃ W3,W3=w2.setCell ⟨g,i*5+2,none⟩ (.slice (some ⟨g2,0,none⟩) (p.1.read.length+1) cc):=⟨_,rfl⟩;rw [←hW3] at HFIN HN2
  (try rw [←hW3]);have hsz3:w.heap.size<W3.heap.size:=Yaj HN2.out;have hx3:∀ pq,(l.set i pq)[i]? = some pq:=fun pq=>by rw [List.getElem?_set_self hil]
  clear hW3 e2 k2 e5 HGB HOLD HOLD2 HR HH1;go_wp2_with (first | (go_at_call 131;go_must (
   refine (Ymm mb n _ (l.set i ({ p.1 with read:=p.1.read ++ [key] },{ p.2 with vr:=.slice (some ⟨g2,0,none⟩) (p.1.read.length+1) cc })) pairs i ({ p.1 with read:=p.1.read ++ [key] },{ p.2 with vr:=.slice (some ⟨g2,0,none⟩) (p.1.read.length+1) cc }) key W3 HFIN.out.1.cell HFIN.out.1.opn HFIN.out.1.prs (HFIN.out.1.txs _ (List.mem_of_getElem? (hx3 _))) (hx3 _) (by rw [List.length_set];omega)).mono ?_;rintro e w5 ⟨rfl,hb5⟩;have HB5:=Yh hb5;have hN5:=(hb5.block _ hsz3).trans HN2.out;have n0:w5.cell? ⟨w.heap.size,0,none⟩=some (.bool false):=Yaa hN5 rfl;have n1:w5.cell? ⟨w.heap.size,1,none⟩=some (.string ByteArray.empty):=Yaa hN5 rfl;have f0:=Yah 0 hN5;have f1:=Yah 1 hN5;have HN5:=Yh hN5;clear hb5 hN5)))
  have HV:Hid (Ycb { p.1 with read:=p.1.read ++ [key] } pairs key=Ycb p.1 pairs key):=rfl;refine bodyPost_ret (v:=.tuple #[.agg #[.bool (Ycb p.1 pairs key).1,.string (Ycb p.1 pairs key).2],.int .i64 0]) ?_ rfl ⟨rfl,_,Yve HALL.out HB1.out hww HFIN.out.1 HFIN.out.2 HB5.out _ _⟩;refine Ygk Tryz.results94 _ _ w.heap.size 38 #[.bool (Ycb p.1 pairs key).1,.string (Ycb p.1 pairs key).2] (0,0) _ _ rfl ?_ underlying38 rfl (by kernel_rfl) rfl;exact (Yak _ _ 1 _ _ _ (Yak _ _ 0 _ _ _ HN5.out)).trans rfl
def Ygl (n:Yaz) (l:List (TxV×TxS)) (t:Int) (key:ByteArray):Int:=if (Yca n.dead (Ya5 l t) key).2≠0 then (Yca n.dead (Ya5 l t) key).2 else if Ycp l t key false then 8 else 0
theorem Yvh (mb:Nat) (n:Yaz) (s:Ya4) (l:List (TxV×TxS)) (pairs other:Yaf) (log:List Yac) (t:Int) (key:ByteArray) (w:World) (h:Yaq w mb n s l pairs other log) (he:Ygl n l t key≠0) (hll:l.length≤10):
 Calls prog 94 #[.pointer (some ⟨mb,0,none⟩),.int .i64 t,.string key] w fun e w'=>e=.returned (.tuple #[.agg #[.bool false,.string ByteArray.empty],.int .i64 (Ygl n l t key)])∧Below w.heap.size w w':=by
 have HH:=Yh h
 have HB0:Hid (Below w.heap.size w (w.alloc (.cells #[.bool false,.string ByteArray.empty] 38))):=(Below.refl _ _).alloc (Nat.le_refl _) _
 have HN0:Hid ((w.alloc (.cells #[.bool false,.string ByteArray.empty] 38)).heap[w.heap.size]? = some (.cells #[.bool false,.string ByteArray.empty] 38 (0,0))):=heap_alloc_new w _
 clear h
 by_cases ha:(Yca n.dead (Ya5 l t) key).2=0
 ·have hl:Ycp l t key false=true:=by
   cases hq:Ycp l t key false with
   | true=>rfl
   | false=>exact absurd (by simp [Ygl,ha,hq]) he
  have HE:Hid (Ygl n l t key=8):=by show _=_;simp [Ygl,ha,hl]
  have HA:=Yh ha;have HL:=Yh hl;clear ha hl he;go_enter func94,ntmps94;go_wp2_with (first
   | (go_at_call 129;go_must (
    have H0:=HH.out.below HB0.out;refine (Yfz mb n s l t key _ H0.cell H0.opn (by omega)).mono ?_;rw [HA.out];rintro e w' ⟨rfl,rfl⟩;clear H0))
   | (go_at_call 130;go_must (
    have H0:=HH.out.below HB0.out;refine (Yhy mb n s l t key false _ H0.cell H0.opn H0.txs (by omega)).mono ?_;rw [HL.out];rintro e w1 ⟨rfl,hb1⟩;have HB1:Hid (Below w.heap.size w w1):=HB0.out.trans (hb1.mono HB0.out.size);have hN1:=(hb1.block w.heap.size (by simp)).trans HN0.out;have HN1:=Yh hN1;have n0:w1.cell? ⟨w.heap.size,0,none⟩=some (.bool false):=Yaa hN1 rfl;have n1:w1.cell? ⟨w.heap.size,1,none⟩=some (.string ByteArray.empty):=Yaa hN1 rfl;have f0:=Yah 0 hN1;have f1:=Yah 1 hN1;clear H0 hb1 hN1)))
  refine bodyPost_ret (v:=.tuple #[.agg #[.bool false,.string ByteArray.empty],.int .i64 8]) ?_ rfl ⟨by rw [HE.out],?_⟩
  ·refine Ygk Tryz.results94 _ _ w.heap.size 38 #[.bool false,.string ByteArray.empty] (0,0) _ _ rfl ?_ underlying38 rfl (by kernel_rfl) rfl
   exact (Yak _ _ 1 _ _ _ (Yak _ _ 0 _ _ _ HN1.out)).trans rfl
  ·exact (HB1.out.setCell (p:=⟨w.heap.size,0,none⟩) (Nat.le_refl _) _).setCell (p:=⟨w.heap.size,1,none⟩) (Nat.le_refl _) _
 ·have HE:Hid (Ygl n l t key=(Yca n.dead (Ya5 l t) key).2):=by show _=_;simp [Ygl,ha]
  have ha':((Yca n.dead (Ya5 l t) key).2 == 0)=false:=by simpa using ha
  have ha2:((Yca n.dead (Ya5 l t) key).2 != 0)=true:=by simpa using ha
  clear he;generalize hq:Yca n.dead (Ya5 l t) key=q at ha ha' ha2 HE;have HQ:=Yh hq;clear hq;obtain ⟨q1,q2⟩:=q;simp only at ha ha' ha2 HE;go_enter func94,ntmps94;go_wp2_with (first
   | (go_at_call 129;go_must (
    have H0:=HH.out.below HB0.out;refine (Yfz mb n s l t key _ H0.cell H0.opn (by omega)).mono ?_;rw [HQ.out];rintro e w' ⟨rfl,rfl⟩;clear H0)))
  refine bodyPost_ret (v:=.tuple #[.agg #[.bool false,.string ByteArray.empty],.int .i64 q2]) ?_ rfl ⟨by rw [HE.out],HB0.out⟩;exact Ygk Tryz.results94 _ _ w.heap.size 38 #[.bool false,.string ByteArray.empty] (0,0) _ _ rfl HN0.out underlying38 rfl (by kernel_rfl) rfl
def Ybt:Ycl→ByteArray→Bool×ByteArray→Ycl
 | [],k,c=>[(k,c)]
 | p :: r,k,c=>if p.1=k then (k,c) :: r else p :: Ybt r k c
theorem Ypt:∀ (ws:Ycl) (key:ByteArray) (c:Bool×ByteArray) (i:Nat) (h:i<ws.length),(∀ j (hj:j<ws.length),j<i→ws[j].1≠key)→ws[i].1=key→Ybt ws key c=ws.set i (key,c)
 | [],_,_,i,h,_,_=>by simp at h
 | p :: r,key,c,0,_,_,he=>by
  have he':p.1=key:=he;rw [Ybt,if_pos he'];rfl
 | p :: r,key,c,i+1,h,hn,he=>by
  have h0:p.1≠key:=hn 0 (by simp) (by omega);rw [Ybt,if_neg h0,Ypt r key c i (by simpa using h) (fun j hj hlt=>hn (j+1) (Nat.succ_lt_succ hj) (by omega)) he];rfl
theorem Ypu:∀ (ws:Ycl) (key:ByteArray) (c:Bool×ByteArray),(∀ j (hj:j<ws.length),ws[j].1≠key)→Ybt ws key c=ws ++ [(key,c)]
 | [],_,_,_=>rfl
 | p :: r,key,c,hn=>by
  have h0:p.1≠key:=hn 0 (by simp);rw [Ybt,if_neg h0,Ypu r key c (fun j hj=>hn (j+1) (Nat.succ_lt_succ hj))];rfl
theorem Ypv:∀ (ws:Ycl) (i:Nat) (p:ByteArray×Bool×ByteArray) (key:ByteArray) (b:Bool) (v:ByteArray),ws[i]? = some p→p.1=key→((Yco ws).set (i*3+1) (.bool b)).set (i*3+2) (.string v)=Yco (ws.set i (key,b,v))
 | [],i,p,_,_,_,h,_=>by simp at h
 | q :: r,0,p,key,b,v,h,hk=>by
  simp at h;subst h;simp [Yco,hk]
 | q :: r,i+1,p,key,b,v,h,hk=>by
  have ih:=Ypv r i p key b v (by simpa using h) hk;have hw:∀ m:Ycl,Yco (q :: m)=[Value.string q.1,.bool q.2.1,.string q.2.2] ++ Yco m:=fun m=>by simp [Yco]
  rw [hw,List.set_cons_succ,hw,List.set_append_right _ _ (by simp;omega),List.set_append_right _ _ (by simp;omega)];simp only [List.length_cons,List.length_nil];rw [show (i+1)*3+1 - (0+1+1+1)=i*3+1 by omega,show (i+1)*3+2 - (0+1+1+1)=i*3+2 by omega,ih]
theorem Yvi:(prog.info? 206).map (fun i=>(i.zero,i.size,i.bytes))=some (some (.agg #[.string ByteArray.empty,.bool false,.string ByteArray.empty]),3,40):=by kernel_rfl
theorem Ymt {cur:Array Value} {j:Nat} (h:cur[j]? = some v):cur.setIfInBounds j v=cur:=by
 apply Array.toList_inj.1;rw [Array.toList_setIfInBounds];apply List.ext_getElem?;intro i;by_cases hi:j=i
 ·subst hi
  have:j<cur.size:=(Array.getElem?_eq_some_iff.1 h).1;rw [List.getElem?_set_self (by simpa using this)];simpa using h.symm
 ·rw [List.getElem?_set_ne hi]
def Yk8 (w w':World) (b o:Nat) (cur:Array Value) (t:TypeId) (vw:Value) (ws:Ycl):Prop:=
 ∃ vw',w'.ownsRow 0 206 3 vw' ws.length (Yco ws)∧w'.heap[b]? = some (.cells (cur.setIfInBounds (o+3) vw') t (0,0))∧(∀ k,k<w.heap.size→k≠b→vw.ownBlock≠some k→w'.heap[k]? = w.heap[k]?) ∧
  (∀ g,vw'.ownBlock=some g→vw.ownBlock=some g∨w.heap.size≤g)∧Below 0 w w'
theorem Ypw (b o:Nat) (cur:Array Value) (ty:TypeId) (vw:Value) (ws:Ycl) (key:ByteArray) (is:Bool) (val:ByteArray) (w:World) (hb:w.heap[b]? = some (.cells cur ty (0,0))) (hc:cur[o+3]? = some vw) (hne:vw.ownBlock≠some b) (hown:w.ownsRow 0 206 3 vw ws.length (Yco ws)) (hlen:ws.length≤10000):
 Calls prog 172 #[.pointer (some ⟨b,o,none⟩),.string key,.agg #[.bool is,.string val]] w fun e w'=>e=.returned (.tuple #[])∧Yk8 w w' b o cur ty vw (Ybt ws key (is,val)):=by
 obtain ⟨p,cap,rfl,hmax⟩:=Ya6 hown
 clear hmax
 have hbw:b<w.heap.size:=Yaj hb
 have hlt0:∀ g,(Value.slice p ws.length cap).ownBlock=some g→g<w.heap.size:=fun g hg=>(hown.lt g hg).2
 obtain ⟨W,hW⟩:∃ W,W=w.alloc (.cells #[.bool is,.string val] 38):=⟨_,rfl⟩
 have hBW:Below w.heap.size w W:=by rw [hW];exact (Below.refl _ _).alloc (Nat.le_refl _) _
 have hNW:W.heap[w.heap.size]? = some (.cells #[.bool is,.string val] 38 (0,0)):=by rw [hW];exact heap_alloc_new w _
 have hzW:W.heap.size=w.heap.size+1:=by rw [hW];simp
 have hbW:W.heap[b]? = some (.cells cur ty (0,0)):=(hBW.block b hbw).trans hb
 have hoW:W.ownsRow 0 206 3 (.slice p ws.length cap) ws.length (Yco ws):=Ybe hown hBW hlt0
 have c3:W.cell? ⟨b,o+3,none⟩=some (.slice p ws.length cap):=Yaa hbW hc
 have fz3:=Yah (o+3) hbW
 have n0:W.cell? ⟨w.heap.size,0,none⟩=some (.bool is):=Yaa hNW rfl
 have n1:W.cell? ⟨w.heap.size,1,none⟩=some (.string val):=Yaa hNW rfl
 have HBW:=Yh hBW
 have HbW:Hid (W.heap[b]? = some (.cells cur ty (0,0))∧cur[o+3]? = some (.slice p ws.length cap)):=⟨hbW,hc⟩
 have HoW:=Yh hoW
 clear hBW hNW hbW hown hb hc
 go_enter func172,ntmps172
 go_wp2
 rw [←hW]
 clear hW
 go_loopw [6] (fun i wr=>∃ k:Nat,k≤ws.length∧i=.int .i64 k∧wr=W∧(∀ j (h:j<ws.length),j<k→ws[j].1≠key)) (fun i _=>ws.length - (intOf i).toNat)
 case atStart=>exact ⟨0,by omega,rfl,rfl,fun j h hj=>by omega⟩
 case round=>
  obtain ⟨k,hk,rfl,rfl,hn⟩:=hrel;have HN:=Yh hn;clear hn;by_cases hlt:k<ws.length
  ·have hlt':(k:Int)<(ws.length:Int):=by omega
   obtain ⟨g,cap',he⟩:=Ybn hoW (by omega);simp only [Value.slice.injEq] at he;obtain ⟨rfl,-,rfl⟩:=he;obtain ⟨d0,d1,d2⟩:=Yik ws k ws[k] (List.getElem?_eq_getElem hlt);have c0:=Yal hoW d0;have c1:=Yal hoW d1;have c2:=Yal hoW d2;have hgw:g<w.heap.size:=hlt0 g rfl;have hgb:g≠b:=fun e=>hne (by rw [e];rfl)
   by_cases hkey:ws[k].1=key
   ·have hfz:∀ j,wr.frozen? ⟨g,j,none⟩=false:=fun j=>by
     rcases HoW.out.2 with ⟨hh,_⟩ | ⟨g',cap',cu,hh,_,hh3,_⟩
     ·cases hh
     ·simp at hh
      obtain ⟨rfl,_⟩:=hh;exact Yah j hh3
    have z1:=hfz (k*3+1);have z2:=hfz (k*3+2);have HFIN:Hid (∀ W2:World,W2.heap=((wr.setCell ⟨g,k*3+1,none⟩ (.bool is)).setCell ⟨g,k*3+2,none⟩ (.string val)).heap→Below 0 wr W2→Yk8 w W2 b o cur ty (.slice (some ⟨g,0,none⟩) ws.length cap) (Ybt ws key (is,val))):=by
     intro W2 hh hb2;have hset:=Ypt ws key (is,val) k hlt HN.out hkey;have r1:=Ydx (Ydx HoW.out (k*3+1) (.bool is)) (k*3+2) (.string val);rw [Ypv ws k ws[k] key is val (List.getElem?_eq_getElem hlt) hkey] at r1;have hkp:∀ q,q≠g→W2.heap[q]? = wr.heap[q]?:=fun q hq=>by
      rw [hh];exact (Below.heap_setCell _ _ _ _ hq).trans (Below.heap_setCell _ _ _ _ hq)
     refine ⟨.slice (some ⟨g,0,none⟩) ws.length cap,?_,?_,fun q h1 h2 h3=>?_,fun q hq=>.inl hq,(HBW.out.mono (Nat.zero_le _)).trans hb2⟩
     ·rw [hset,List.length_set]
      exact Yas r1 (fun q _=>by rw [hh])
     ·rw [hkp b (Ne.symm hgb),HbW.out.1]
      rw [Ymt HbW.out.2]
     ·rw [hkp q (fun e=>h3 (by rw [e];rfl))]
      exact HBW.out.block q h1
    rw [hkey] at c0;clear d0 d1 d2 hfz;generalize ws[k].2.1=x1 at c1;generalize ws[k].2.2=x2 at c2;go_wp2;go_region
    all_goals
     go_wp2;refine bodyPost_ret (v:=.tuple #[]) (results_none Tryz.results172 _ _ _) rfl ⟨rfl,HFIN.out _ rfl ?_⟩;exact (((Below.refl _ _).setCell (p:=⟨g,k*3+1,none⟩) (by simp) _).setCell (p:=⟨g,k*3+2,none⟩) (by simp) _).drew
   ·have hke:=Yg6 hkey
    have HN1:Hid (∀ j (h:j<ws.length),j<k+1→ws[j].1≠key):=fun j h hj=>by
     by_cases hjk:j=k
     ·subst hjk;exact hkey
     ·exact HN.out j h (by omega)
    clear d0 d1 d2 c1 c2;generalize ws[k].1=q at c0 hke hkey;go_wp2;exact ⟨⟨k+1,by omega,by simp,trivial,HN1.out⟩,by simp [intOf];omega⟩
  ·have hlt':¬(k:Int)<(ws.length:Int):=by omega
   have hset:Ybt ws key (is,val)=ws ++ [(key,is,val)]:=Ypu ws key (is,val) (fun j hj=>HN.out j hj (by omega));have HS:=Yh hset;clear hset;go_wp2;obtain ⟨i0,hi0,hx0,hx1,hx2⟩:=info_parts Yvi;have hbW2:b<wr.heap.size:=Yaj HbW.out.1;have hNw:w.heap.size<wr.heap.size:=by omega
   go_region_law (first
    | (
     refine step_append_lies _ ?hgd (.tmp 38) (.tmp 42) 198 ?hop 0 206 i0 _ 3 40 underlying198 hi0 hx0 hx1 hx2 rfl (by omega) (.slice p ws.length cap) ws.length (Yco ws) ?hs (World.ownsRow.alloc (w:=wr.drew) HoW.out _) ⟨wr.heap.size,0,none⟩ 1 1 [.string key,.bool is,.string val] ?hx rfl ?hnews ?h1 (by omega) (by unfold maxLen;omega) (by omega) (by omega) (wr.heap.size+1) ?hH ?_
     case hgd=>rfl
     case hop=>rfl
     case hs=>go_simp
     case hx=>go_simp
     case hnews=>intro j u hu;rw [Ydf];exact Yaa (heap_alloc_new wr.drew _) (by simpa using hu)
     case h1=>intro u hu;simp at hu;rcases hu with rfl | rfl | rfl <;> rfl
     case hH=>simp
     intro g2 cc w2 ho2 hg2 hat hlt2;have hb2:=(hg2.block b (by simp;omega) (fun e=>hne e.symm)).trans ((Below.heap_alloc wr _ b hbW2).trans HbW.out.1);have e3:w2.cell? ⟨b,o+3,none⟩=some (.slice p ws.length cap):=Yaa hb2 HbW.out.2;have k3:=Yah (o+3) hb2;have HFIN:Hid (∀ W2:World,W2.heap=(w2.setCell ⟨b,o+3,none⟩ (.slice (some ⟨g2,0,none⟩) (ws.length+1) cc)).heap→Below 0 w2 W2→Yk8 w W2 b o cur ty (.slice p ws.length cap) (Ybt ws key (is,val))):=by
      intro W2 hh hbb;have hg2b:g2≠b:=by
       rcases hat with hat | hat
       ·exact fun e=>hne (by rw [hat,e])
       ·omega
      refine ⟨.slice (some ⟨g2,0,none⟩) (ws.length+1) cc,?_,?_,fun q h1 h2 h3=>?_,fun q hq=>?_,?_⟩
      ·rw [HS.out,List.length_append,Yuz]
       refine Yas ho2 (fun q hq=>?_);rw [hh];simp [Value.ownBlock] at hq;subst hq;exact Below.heap_setCell _ _ _ _ hg2b
      ·rw [hh]
       exact Yak _ _ _ _ _ _ hb2
      ·rw [hh,Below.heap_setCell _ _ _ _ h2]
       exact (hg2.block q (by simp;omega) (fun e=>h3 e.symm)).trans ((Below.heap_alloc wr _ q (by omega)).trans (HBW.out.block q h1))
      ·simp [Value.ownBlock] at hq
       subst hq;rcases hat with hat | hat
       ·exact .inl hat
       ·exact .inr (by omega)
      ·have hs:=hg2.size
       have h1:=HBW.out.size;have h2:=hbb.size;exact ⟨(hbb.os.trans hg2.os).trans HBW.out.os,(hbb.tape.trans hg2.tape).trans HBW.out.tape,(hbb.output.trans hg2.output).trans HBW.out.output,by simp at hs;omega,fun k hk=>by omega⟩
     clear ho2 hg2 hat hlt2 hb2))
   all_goals
    go_wp2;go_end0;refine ⟨rfl,HFIN.out _ rfl ?_⟩;exact (Below.refl _ _).setCell (p:=⟨b,o+3,none⟩) (by simp) _
def Ymu (w w':World) (mb b o:Nat) (n:Yaz) (s:Ya4) (cur:Array Value) (log:List Yac) (x:Yac):Prop:=
 ∃ vl',w'.ownsRow 0 152 9 vl' (log ++ [x]).length (Ybf (log ++ [x]))∧w'.heap[mb]? = some (.cells (Yc6 n { s with vl:=vl' }) 119 (0,0))∧w'.heap[b]? = some (.cells (cur.setIfInBounds (o+1) (.int .i64 ((log.length:Int)+1))) 200 (0,0)) ∧
  (∀ k,k<w.heap.size→k≠mb→k≠b→s.vl.ownBlock≠some k→w'.heap[k]? = w.heap[k]?)∧(∀ g,vl'.ownBlock=some g→s.vl.ownBlock=some g∨w.heap.size≤g)∧Below 0 w w'
theorem Yha (mb b o:Nat) (n:Yaz) (s:Ya4) (cur:Array Value) (log:List Yac) (xid last:Int) (x:Yac) (w:World) (hm:w.heap[mb]? = some (.cells (Yc6 n s) 119 (0,0))) (hb:w.heap[b]? = some (.cells cur 200 (0,0))) (hc0:cur[o]? = some (.int .i64 xid)) (hc1:cur[o+1]? = some (.int .i64 last))
 (hown:w.ownsRow 0 152 9 s.vl log.length (Ybf log)) (hlen:log.length≤10000) (hmb:mb≠b) (hvm:s.vl.ownBlock≠some mb) (hvb:s.vl.ownBlock≠some b):
 Calls prog 137 #[.pointer (some ⟨mb,0,none⟩),.pointer (some ⟨b,o,none⟩),.agg x.cells] w fun e w'=>e=.returned (.int .i64 ((log.length:Int)+1))∧Ymu w w' mb b o n s cur log { x with tx:=xid,prev:=last }:=by
 obtain ⟨kind,tx,prev,next,key,oldIs,old,newIs,new⟩:=x
 simp only [Yac.cells]
 obtain ⟨vp,vo,vt,vl⟩:=s
 obtain ⟨p,cap,hvl,hmax⟩:=Ya6 hown
 simp only at hvl
 subst hvl
 clear hmax
 have hmw:mb<w.heap.size:=Yaj hm
 have hbw:b<w.heap.size:=Yaj hb
 have c8:w.cell? ⟨mb,8,none⟩=some (.slice p log.length cap):=Yaa hm rfl
 have c0:w.cell? ⟨b,o,none⟩=some (.int .i64 xid):=Yaa hb hc0
 have c1:w.cell? ⟨b,o+1,none⟩=some (.int .i64 last):=Yaa hb hc1
 have f8:=Yah 8 hm
 have f1:=Yah (o+1) hb
 have HM:=Yh hm
 have HBk:Hid (w.heap[b]? = some (.cells cur 200 (0,0))∧cur[o]? = some (.int .i64 xid)∧cur[o+1]? = some (.int .i64 last)):=⟨hb,hc0,hc1⟩
 have HO:=Yh hown
 clear hm hb hc0 hc1 hown
 go_enter func137,ntmps137
 go_wp2
 obtain ⟨W,hW⟩:∃ W,W=w.alloc (.cells #[.int .i64 kind,.int .i64 xid,.int .i64 last,.int .i64 next,.string key,.bool oldIs,.string old,.bool newIs,.string new] 152):=⟨_,rfl⟩
 rw [←hW]
 have hBW:Below w.heap.size w W:=by rw [hW];exact (Below.refl _ _).alloc (Nat.le_refl _) _
 have hNW:W.heap[w.heap.size]? = some (.cells #[.int .i64 kind,.int .i64 xid,.int .i64 last,.int .i64 next,.string key,.bool oldIs,.string old,.bool newIs,.string new] 152 (0,0)):=by rw [hW];exact heap_alloc_new w _
 have hzW:W.heap.size=w.heap.size+1:=by rw [hW];simp
 have d8:W.cell? ⟨mb,8,none⟩=some (.slice p log.length cap):=(hBW.cell hmw).trans c8
 have m0:W.cell? ⟨w.heap.size,0,none⟩=some (.int .i64 kind):=Yaa hNW rfl
 have m1:W.cell? ⟨w.heap.size,1,none⟩=some (.int .i64 xid):=Yaa hNW rfl
 have m2:W.cell? ⟨w.heap.size,2,none⟩=some (.int .i64 last):=Yaa hNW rfl
 have m3:W.cell? ⟨w.heap.size,3,none⟩=some (.int .i64 next):=Yaa hNW rfl
 have m4:W.cell? ⟨w.heap.size,4,none⟩=some (.string key):=Yaa hNW rfl
 have m5:W.cell? ⟨w.heap.size,5,none⟩=some (.bool oldIs):=Yaa hNW rfl
 have m6:W.cell? ⟨w.heap.size,6,none⟩=some (.string old):=Yaa hNW rfl
 have m7:W.cell? ⟨w.heap.size,7,none⟩=some (.bool newIs):=Yaa hNW rfl
 have m8:W.cell? ⟨w.heap.size,8,none⟩=some (.string new):=Yaa hNW rfl
 have HoW:Hid (W.ownsRow 0 152 9 (.slice p log.length cap) log.length (Ybf log)):=Ybe HO.out hBW (fun g hg=>(HO.out.lt g hg).2)
 have HBW:=Yh hBW
 have hmW:mb<W.heap.size:=by omega
 have hbW:b<W.heap.size:=by omega
 have hNw:w.heap.size<W.heap.size:=by omega
 obtain ⟨i0,hi0,hx0,hx1,hx2⟩:=info_parts Yk6
 clear hW hBW hNW c8 c0 c1 f8 f1
 go_region_law (first
  | (
   refine step_append_lies _ ?hgd (.tmp 21) (.tmp 23) 69 ?hop 0 152 i0 _ 9 96 underlying69 hi0 hx0 hx1 hx2 rfl (by omega) (.slice p log.length cap) log.length (Ybf log) ?hs (World.ownsRow.alloc (w:=W.drew) HoW.out _) ⟨W.heap.size,0,none⟩ 1 1 [.int .i64 kind,.int .i64 xid,.int .i64 last,.int .i64 next,.string key,.bool oldIs,.string old,.bool newIs,.string new] ?hx rfl ?hnews ?h1 (by omega) (by unfold maxLen;omega) (by omega) (by omega) (W.heap.size+1) ?hH ?_
   case hgd=>rfl
   case hop=>rfl
   case hs=>go_simp
   case hx=>go_simp
   case hnews=>intro j u hu;rw [Ydf];exact Yaa (heap_alloc_new W.drew _) (by simpa using hu)
   case h1=>intro u hu;simp at hu;rcases hu with rfl | rfl | rfl | rfl | rfl | rfl | rfl | rfl | rfl <;> rfl
   case hH=>simp
   intro g2 cc w2 ho2 hg2 hat hlt2;have hk2:∀ k,k<w.heap.size→(Value.slice p log.length cap).ownBlock≠some k→w2.heap[k]? = w.heap[k]?:=fun k h1 h2=>
    (hg2.block k (by simp;omega) (fun e=>h2 e.symm)).trans ((Below.heap_alloc W _ k (by omega)).trans (HBW.out.block k h1))
   have hm2:=(hk2 mb hmw hvm).trans HM.out;have hb2:=(hk2 b hbw hvb).trans HBk.out.1;have e8:w2.cell? ⟨mb,8,none⟩=some (.slice p log.length cap):=Yaa hm2 rfl;have k8:=Yah 8 hm2;have e1:w2.cell? ⟨b,o+1,none⟩=some (.int .i64 last):=Yaa hb2 HBk.out.2.2;have k1:=Yah (o+1) hb2;have HFIN:Hid (Ymu w ((w2.setCell ⟨mb,8,none⟩ (.slice (some ⟨g2,0,none⟩) (log.length+1) cc)).setCell ⟨b,o+1,none⟩ (.int .i64 ((log.length:Int)+1))) mb b o n ⟨vp,vo,vt,.slice p log.length cap⟩ cur log ⟨kind,xid,last,next,key,oldIs,old,newIs,new⟩):=by
    have hg2m:g2≠mb:=by
     rcases hat with hat | hat
     ·exact fun e=>hvm (by rw [hat,e])
     ·omega
    have hg2b:g2≠b:=by
     rcases hat with hat | hat
     ·exact fun e=>hvb (by rw [hat,e])
     ·omega
    refine ⟨.slice (some ⟨g2,0,none⟩) (log.length+1) cc,?_,?_,?_,fun k h1 h2 h3 h4=>?_,fun q hq=>?_,?_⟩
    ·have hc:Ybf (log ++ [⟨kind,xid,last,next,key,oldIs,old,newIs,new⟩])=Ybf log ++ [.int .i64 kind,.int .i64 xid,.int .i64 last,.int .i64 next,.string key,.bool oldIs,.string old,.bool newIs,.string new]:=by simp [Ybf,Yac.cells]
     rw [hc,List.length_append];refine Yas ho2 (fun q hq=>?_);simp [Value.ownBlock] at hq;subst hq;exact (Below.heap_setCell _ _ _ _ hg2b).trans (Below.heap_setCell _ _ _ _ hg2m)
    ·exact (Below.heap_setCell _ _ _ _ hmb).trans ((Yak _ _ 8 _ _ _ hm2).trans rfl)
    ·exact Yak _ _ _ _ _ _ ((Below.heap_setCell _ _ _ _ (Ne.symm hmb)).trans hb2)
    ·exact (Below.heap_setCell _ _ _ _ h3).trans ((Below.heap_setCell _ _ _ _ h2).trans (hk2 k h1 h4))
    ·simp [Value.ownBlock] at hq
     subst hq;rcases hat with hat | hat
     ·exact .inl hat
     ·exact .inr (by omega)
    ·have hs:=hg2.size
     have h1:=HBW.out.size;have:Below 0 w w2:=⟨hg2.os.trans HBW.out.os,hg2.tape.trans HBW.out.tape,hg2.output.trans HBW.out.output,by simp at hs;omega,fun k hk=>by omega⟩;exact (this.setCell (p:=⟨mb,8,none⟩) (by simp) _).setCell (p:=⟨b,o+1,none⟩) (by simp) _
   clear ho2 hg2 hat hlt2 hk2 hm2 hb2))
 all_goals
  go_wp2;go_ret;exact ⟨rfl,HFIN.out⟩
end Go.Proofs.YtihbngfbcnojcaaGreat
