import Derived.Test.YtihbngfbcnojcaaGreatActC07
set_option maxRecDepth 100000
set_option maxHeartbeats 8000000
namespace Go.Proofs.YtihbngfbcnojcaaGreat
open Go.RowKit Tryz
theorem Yxp (a b:Int) (e:Yac) (w:World) (ha:0≤a) (ha':a<4294967295) (hb:0≤b) (hb':b<4294967296) (he:e.Fits) (ho:e.oldIs=false→e.old.size=0) (hn:e.newIs=false→e.new.size=0):
 Calls prog 148 #[.agg (Yam a b e.body).toArray] w fun r w'=>r=.returned (.tuple #[.agg #[.int .u32 a,.int .u32 b],.agg e.cells,.bool true])∧Below w.heap.size w w':=by
 obtain ⟨kind,tx,prev,next,key,oldIs,old,newIs,new⟩:=e
 have HE:Hid (∀ W:World,∀ m,W.heap[m]? = some (.cells (Yam a b (Yac.mk kind tx prev next key oldIs old newIs new).body).toArray 98)→Yq4 W m (Yac.mk kind tx prev next key oldIs old newIs new)):=fun W m h=>Yxk he h
 have HUN:=Yh (fun w=>Yq8 a b (Yac.mk kind tx prev next key oldIs old newIs new).body w ha ha' hb hb' (by rw [Yac.body_length _ he];omega) (Yac.body_byte _ he))
 have HSL:Hid ((Yam a b (Yac.mk kind tx prev next key oldIs old newIs new).body).length=64):=Yeh a b _ (by rw [Yac.body_length _ he];omega)
 obtain ⟨hk,ht,hp,hnx,hkey,hold,hnew⟩:=he
 simp only at hk ht hp hnx hkey hold hnew ho hn
 have HQ1:Hid (Ybk (beI kind 1)=kind):=Yin kind 1 hk.1 (by omega) (by simpa using hk.2)
 have HQ2:Hid (Ybk (beI tx 1)=tx):=Yin tx 1 ht.1 (by omega) (by simpa using ht.2)
 have HQ3:Hid (Ybk (beI prev 2)=prev):=Yin prev 2 hp.1 (by omega) (by simpa using hp.2)
 have HQ4:Hid (Ybk (beI next 2)=next):=Yin next 2 hnx.1 (by omega) (by simpa using hnx.2)
 simp only [Yac.cells]
 have HHOI:=Yh ho
 have HHNI:=Yh hn
 clear ho hn
 obtain ⟨T,hT⟩:∃ T,(Yam a b (Yac.mk kind tx prev next key oldIs old newIs new).body)=T:=⟨_,rfl⟩
 rw [hT] at HE HUN HSL ⊢
 clear hT
 have tok1:True:=trivial
 have tok2:True:=trivial
 have tok3:True:=trivial
 have tok4:True:=trivial
 have tok5:True:=trivial
 have tok6:True:=trivial
 have tok7:True:=trivial
 have hst:=Ykx (w:=w) (o1:=.cells T.toArray 98) (o2:=.cells #[.int .u32 0,.int .u32 0] 168) (o3:=.cells #[.int .i64 0,.int .i64 0,.int .i64 0,.int .i64 0,.string ⟨#[]⟩,.bool false,.string ⟨#[]⟩,.bool false,.string ⟨#[]⟩] 152)
 have HST:=Yh hst
 clear hst
 have HI9:Hid ((prog.info? 98).map (·.size)=some T.toArray.size):=by show _=_;rw [List.size_toArray,HSL.out];kernel_rfl
 go_enter func148,ntmps148
 go_wp2_with (first | (refine wpList_load_row rfl 98 (.tmp 1) rfl w.heap.size rfl 98 T.toArray (0,0) _ HST.out.2.2.1 underlying98 rfl HI9.out ?_) | (go_at_call 151;fail))
 revert HST
 generalize ((w.alloc (.cells T.toArray 98)).alloc (.cells #[.int .u32 0,.int .u32 0] 168)).alloc (.cells #[.int .i64 0,.int .i64 0,.int .i64 0,.int .i64 0,.string ⟨#[]⟩,.bool false,.string ⟨#[]⟩,.bool false,.string ⟨#[]⟩] 152)=w0
 intro HST
 obtain ⟨hB0,hs0,hh0,hh1,hh2⟩:=HST.out
 have HB0:=Yh hB0
 have HH1:=Yh hh1
 have HH2:=Yh hh2
 have HS0:=Yh hs0
 refine Calls.mono (HUN.out w0) ?_
 rintro r w1 ⟨rfl,hm1,hb1⟩
 rw [hs0] at hm1 ⊢
 have HM1:=Yh hm1
 have HB1:Hid (Below (w.heap.size+3) w0 w1):=hb1.mono (by omega)
 have hl1:w.heap.size+3<w1.heap.size:=Yaj hm1
 clear hB0 hs0 hh0 hh1 hh2 HST hm1 hb1 HUN
 go_wp2_with (first
  | (go_at_call 152;have _t:=tok1;go_must (
   refine (Yg7 (w1.heap.size+1) (w.heap.size+3) (8) (48) (56) 1 false (beI kind 1) _ ?hr (by omega) (by omega) (by omega) (by omega) (Yim _ _) (HE.out _ _ ?hm).kind (by omega)).mono ?_
   case hr=>exact heap_alloc2_new w1 _ _
   case hm=>rw [Below.heap_alloc _ _ _ (by simp;omega),Below.heap_alloc _ _ _ hl1];exact HM1.out
   rintro r w2 ⟨rfl,ad,had,hr,ho,hz,hb⟩;obtain rfl:=had (by omega);rw [HQ1.out];have HR2:=Yh hr;have HO2:=Yh ho;have HZ2:Hid (w2.heap.size=w1.heap.size+2):=by rw [Hid,hz];simp
   have HK2:Hid (Below 0 w w2):=(((HB0.out.mono (by omega)).trans (HB1.out.mono (by omega))).trans (((Below.refl 0 w1).alloc (by omega) _).alloc (by omega) _)).trans hb;have HM2:Hid (w2.heap[w.heap.size+3]? = some (.cells T.toArray 98)):=by show _=_;rw [HO2.out _ (by omega),Below.heap_alloc _ _ _ (by simp;omega),Below.heap_alloc _ _ _ hl1];exact HM1.out
   clear tok1 hr ho hz hb had))
  | (go_at_call 152;have _t:=tok2;go_must (
   refine (Yg7 (w1.heap.size+1) (w.heap.size+3) (8+1) (48 - 1) (56 - 1) 1 false (beI tx 1) _ HR2.out (by omega) (by omega) (by omega) (by omega) (Yim _ _) (HE.out _ _ HM2.out).tx (by omega)).mono ?_;rintro r w3 ⟨rfl,ad,had,hr,ho,hz,hb⟩;obtain rfl:=had (by omega);rw [HQ2.out];have HR3:=Yh hr;have HO3:Hid (∀ k,k≠w1.heap.size+1→w3.heap[k]? = ((w1.alloc (.cells #[.int .u32 a,.int .u32 b] 168)).alloc (.cells #[.slice (some ⟨w.heap.size+3,8,none⟩) 48 56,.bool false] 243)).heap[k]?):=fun k hk=>(ho k hk).trans (HO2.out k hk)
   have HZ3:Hid (w3.heap.size=w1.heap.size+2):=hz.trans HZ2.out;have HK3:Hid (Below 0 w w3):=HK2.out.trans hb;have HM3:Hid (w3.heap[w.heap.size+3]? = some (.cells T.toArray 98)):=(ho _ (by omega)).trans HM2.out;clear tok2 hr ho hz hb had HR2 HO2 HZ2 HK2 HM2))
  | (go_at_call 152;have _t:=tok3;go_must (
   refine (Yg7 (w1.heap.size+1) (w.heap.size+3) (8+1+1) (48 - 1 - 1) (56 - 1 - 1) 2 false (beI prev 2) _ HR3.out (by omega) (by omega) (by omega) (by omega) (Yim _ _) (HE.out _ _ HM3.out).prev (by omega)).mono ?_;rintro r w4 ⟨rfl,ad,had,hr,ho,hz,hb⟩;obtain rfl:=had (by omega);rw [HQ3.out];have HR4:=Yh hr;have HO4:Hid (∀ k,k≠w1.heap.size+1→w4.heap[k]? = ((w1.alloc (.cells #[.int .u32 a,.int .u32 b] 168)).alloc (.cells #[.slice (some ⟨w.heap.size+3,8,none⟩) 48 56,.bool false] 243)).heap[k]?):=fun k hk=>(ho k hk).trans (HO3.out k hk)
   have HZ4:Hid (w4.heap.size=w1.heap.size+2):=hz.trans HZ3.out;have HK4:Hid (Below 0 w w4):=HK3.out.trans hb;have HM4:Hid (w4.heap[w.heap.size+3]? = some (.cells T.toArray 98)):=(ho _ (by omega)).trans HM3.out;clear tok3 hr ho hz hb had HR3 HO3 HZ3 HK3 HM3))
  | (go_at_call 152;have _t:=tok4;go_must (
   refine (Yg7 (w1.heap.size+1) (w.heap.size+3) (8+1+1+2) (48 - 1 - 1 - 2) (56 - 1 - 1 - 2) 2 false (beI next 2) _ HR4.out (by omega) (by omega) (by omega) (by omega) (Yim _ _) (HE.out _ _ HM4.out).next (by omega)).mono ?_;rintro r w5 ⟨rfl,ad,had,hr,ho,hz,hb⟩;obtain rfl:=had (by omega);rw [HQ4.out];have HR5:=Yh hr;have HO5:Hid (∀ k,k≠w1.heap.size+1→w5.heap[k]? = ((w1.alloc (.cells #[.int .u32 a,.int .u32 b] 168)).alloc (.cells #[.slice (some ⟨w.heap.size+3,8,none⟩) 48 56,.bool false] 243)).heap[k]?):=fun k hk=>(ho k hk).trans (HO4.out k hk)
   have HZ5:Hid (w5.heap.size=w1.heap.size+2):=hz.trans HZ4.out;have HK5:Hid (Below 0 w w5):=HK4.out.trans hb;have HM5:Hid (w5.heap[w.heap.size+3]? = some (.cells T.toArray 98)):=(ho _ (by omega)).trans HM4.out;have hz5:w5.heap.size=w1.heap.size+2:=HZ5.out;clear tok4 hr ho hz hb had HR4 HO4 HZ4 HK4 HM4))
  | (go_at_call 197;go_must (
   refine (Ylg (w1.heap.size+1) (w.heap.size+3) (8+1+1+2+2) (48 - 1 - 1 - 2 - 2) (56 - 1 - 1 - 2 - 2) 8 false _ ?hr (by omega) (by omega) (by omega) (by omega) (by omega) (by omega) key hkey ?hm).mono ?_
   case hr=>exact (Below.heap_alloc w5 _ _ (by omega)).trans HR5.out
   case hm=>exact (HE.out _ _ ((Below.heap_alloc w5 _ _ (by omega)).trans HM5.out)).key
   rintro r w6 ⟨rfl,hr,ho,hz,hb⟩;have HR6:=Yh hr;have HZ6:Hid (w6.heap.size=w1.heap.size+3):=by rw [Hid,hz];simp [hz5]
   have HO6:Hid (∀ k,k<w1.heap.size+3→k≠w1.heap.size+1→w6.heap[k]? = (w5.alloc (.cells #[.int .i64 kind,.int .i64 tx,.int .i64 prev,.int .i64 next,.string ⟨#[]⟩,.bool false,.string ⟨#[]⟩,.bool false,.string ⟨#[]⟩] 152)).heap[k]?):=fun k _ hk=>ho k hk
   have HK6:Hid (Below 0 w w6):=(HK5.out.trans ((Below.refl 0 w5).alloc (by omega) _)).trans hb;have HM6:Hid (w6.heap[w.heap.size+3]? = some (.cells T.toArray 98)):=(ho _ (by omega)).trans ((Below.heap_alloc w5 _ _ (by omega)).trans HM5.out);clear hr ho hz hb HR5 HM5 HK5))
  | (go_at_call 198;have _t:=tok5;go_must (
   refine (Yq3 (w1.heap.size+1) (w.heap.size+3) (8+1+1+2+2+(1+8)) (48 - 1 - 1 - 2 - 2 - (1+8)) (56 - 1 - 1 - 2 - 2 - (1+8)) false _ HR6.out (by omega) (by omega) (by omega) (by omega) (by omega) (by have:=HZ6.out;omega) oldIs old hold HHOI.out (HE.out _ _ HM6.out).old).mono ?_;rintro r w7 ⟨rfl,hr,hoo,hb⟩;have HR7:=Yh hr;have HZ7:Hid (w1.heap.size+3≤w7.heap.size):=by have:=hb.size;have:=HZ6.out;show _≤_;omega
   have HO7:Hid (∀ k,k<w1.heap.size+3→k≠w1.heap.size+1→w7.heap[k]? = (w5.alloc (.cells #[.int .i64 kind,.int .i64 tx,.int .i64 prev,.int .i64 next,.string ⟨#[]⟩,.bool false,.string ⟨#[]⟩,.bool false,.string ⟨#[]⟩] 152)).heap[k]?):=fun k hk hne=>(hoo k (by have:=HZ6.out;omega) hne).trans (HO6.out k hk hne)
   have HK7:Hid (Below 0 w w7):=HK6.out.trans hb;have HM7:Hid (w7.heap[w.heap.size+3]? = some (.cells T.toArray 98)):=(hoo _ (by have:=HZ6.out;omega) (by omega)).trans HM6.out;clear tok5 hr hoo hb HR6 HZ6 HO6 HK6 HM6))
  | (go_at_call 198;have _t:=tok6;go_must (
   refine (Yq3 (w1.heap.size+1) (w.heap.size+3) (8+1+1+2+2+(1+8)+13) (48 - 1 - 1 - 2 - 2 - (1+8) - 13) (56 - 1 - 1 - 2 - 2 - (1+8) - 13) false _ HR7.out (by omega) (by omega) (by omega) (by omega) (by omega) (by have:=HZ7.out;omega) newIs new hnew HHNI.out (HE.out _ _ HM7.out).new).mono ?_;rintro r w8 ⟨rfl,hr,hoo,hb⟩;have HR8:=Yh hr;have HZ8:Hid (w1.heap.size+3≤w8.heap.size):=by have:=hb.size;have:=HZ7.out;show _≤_;omega
   have HO8:Hid (∀ k,k<w1.heap.size+3→k≠w1.heap.size+1→w8.heap[k]? = (w5.alloc (.cells #[.int .i64 kind,.int .i64 tx,.int .i64 prev,.int .i64 next,.string ⟨#[]⟩,.bool false,.string ⟨#[]⟩,.bool false,.string ⟨#[]⟩] 152)).heap[k]?):=fun k hk hne=>(hoo k (by have:=HZ7.out;omega) hne).trans (HO7.out k hk hne)
   have HK8:Hid (Below 0 w w8):=HK7.out.trans hb;have HM8:Hid (w8.heap[w.heap.size+3]? = some (.cells T.toArray 98)):=(hoo _ (by have:=HZ7.out;omega) (by omega)).trans HM7.out;have k9:w8.heap[w1.heap.size+2]? = some (.cells #[.int .i64 kind,.int .i64 tx,.int .i64 prev,.int .i64 next,.string ⟨#[]⟩,.bool false,.string ⟨#[]⟩,.bool false,.string ⟨#[]⟩] 152):=(HO8.out _ (by omega) (by omega)).trans (by rw [←hz5];exact heap_alloc_new w5 _);have f4:=Yah 4 k9;have g4:=Yaa (j:=4) k9 rfl;have f5:=Yah 5 k9;have g5:=Yaa (j:=5) k9 rfl;have f6:=Yah 6 k9;have g6:=Yaa (j:=6) k9 rfl;have f7:=Yah 7 k9;have g7:=Yaa (j:=7) k9 rfl;have f8:=Yah 8 k9;have g8:=Yaa (j:=8) k9 rfl;have g9:w8.cell? ⟨w1.heap.size+1,1,none⟩=some (.bool false):=Yaa (j:=1) HR8.out rfl;have HK9:=Yh k9;clear k9;clear tok6 hr hoo hb HR7 HZ7 HO7 HK7 HM7)))
 have j9:(((((w8.setCell ⟨w1.heap.size+2,4,none⟩ (.string key)).setCell ⟨w1.heap.size+2,5,none⟩ (.bool oldIs)).setCell ⟨w1.heap.size+2,6,none⟩ (.string old)).setCell ⟨w1.heap.size+2,7,none⟩ (.bool newIs)).setCell ⟨w1.heap.size+2,8,none⟩ (.string new)).heap[w1.heap.size+2]? = some (.cells #[.int .i64 kind,.int .i64 tx,.int .i64 prev,.int .i64 next,.string key,.bool oldIs,.string old,.bool newIs,.string new] 152):=Yak _ _ 8 _ _ 152 (Yak _ _ 7 _ _ 152 (Yak _ _ 6 _ _ 152 (Yak _ _ 5 _ _ 152 (Yak w8 _ 4 (.string key) _ 152 HK9.out))))
 have jo:∀ k,k<w1.heap.size+3→k≠w1.heap.size+1→k≠w1.heap.size+2→(((((w8.setCell ⟨w1.heap.size+2,4,none⟩ (.string key)).setCell ⟨w1.heap.size+2,5,none⟩ (.bool oldIs)).setCell ⟨w1.heap.size+2,6,none⟩ (.string old)).setCell ⟨w1.heap.size+2,7,none⟩ (.bool newIs)).setCell ⟨w1.heap.size+2,8,none⟩ (.string new)).heap[k]? = (w5.alloc (.cells #[.int .i64 kind,.int .i64 tx,.int .i64 prev,.int .i64 next,.string ⟨#[]⟩,.bool false,.string ⟨#[]⟩,.bool false,.string ⟨#[]⟩] 152)).heap[k]?:=fun k h1 h2 h3=>by
  rw [Below.heap_setCell _ _ _ _ h3,Below.heap_setCell _ _ _ _ h3,Below.heap_setCell _ _ _ _ h3,Below.heap_setCell _ _ _ _ h3,Below.heap_setCell _ _ _ _ h3];exact HO8.out k h1 h2
 have jk:Below 0 w (((((w8.setCell ⟨w1.heap.size+2,4,none⟩ (.string key)).setCell ⟨w1.heap.size+2,5,none⟩ (.bool oldIs)).setCell ⟨w1.heap.size+2,6,none⟩ (.string old)).setCell ⟨w1.heap.size+2,7,none⟩ (.bool newIs)).setCell ⟨w1.heap.size+2,8,none⟩ (.string new)):=((((HK8.out.setCell (p:=⟨w1.heap.size+2,4,none⟩) (by simp) _).setCell (p:=⟨w1.heap.size+2,5,none⟩) (by simp) _).setCell (p:=⟨w1.heap.size+2,6,none⟩) (by simp) _).setCell (p:=⟨w1.heap.size+2,7,none⟩) (by simp) _).setCell (p:=⟨w1.heap.size+2,8,none⟩) (by simp) _
 have jz:w1.heap.size+3≤(((((w8.setCell ⟨w1.heap.size+2,4,none⟩ (.string key)).setCell ⟨w1.heap.size+2,5,none⟩ (.bool oldIs)).setCell ⟨w1.heap.size+2,6,none⟩ (.string old)).setCell ⟨w1.heap.size+2,7,none⟩ (.bool newIs)).setCell ⟨w1.heap.size+2,8,none⟩ (.string new)).heap.size:=by have:=HZ8.out;simp [World.setCell];omega
 revert j9 jo jk jz
 generalize (((((w8.setCell ⟨w1.heap.size+2,4,none⟩ (.string key)).setCell ⟨w1.heap.size+2,5,none⟩ (.bool oldIs)).setCell ⟨w1.heap.size+2,6,none⟩ (.string old)).setCell ⟨w1.heap.size+2,7,none⟩ (.bool newIs)).setCell ⟨w1.heap.size+2,8,none⟩ (.string new))=w9
 intro j9 jo jk jz
 have old1:∀ k,k<w1.heap.size→w9.heap[k]? = w1.heap[k]?:=fun k hk=>by
  rw [jo k (by omega) (by omega) (by omega),Below.heap_alloc _ _ _ (by omega),HO5.out k (by omega),Below.heap_alloc _ _ _ (by simp;omega),Below.heap_alloc _ _ _ hk]
 have j5:w9.heap[w1.heap.size]? = some (.cells #[.int .u32 a,.int .u32 b] 168):=by
  rw [jo _ (by omega) (by omega) (by omega),Below.heap_alloc _ _ _ (by omega),HO5.out _ (by omega)];exact heap_alloc2_old w1 _ _
 have j1:w9.heap[w.heap.size+1]? = some (.cells #[.int .u32 0,.int .u32 0] 168):=by rw [old1 _ (by omega),HB1.out.block _ (by omega)];exact HH1.out
 have j2:w9.heap[w.heap.size+1+1]? = some (.cells #[.int .i64 0,.int .i64 0,.int .i64 0,.int .i64 0,.string ⟨#[]⟩,.bool false,.string ⟨#[]⟩,.bool false,.string ⟨#[]⟩] 152):=by rw [old1 _ (by omega),HB1.out.block _ (by omega)];exact HH2.out
 have HBW:Hid (Below w.heap.size w w9):=⟨jk.os,jk.tape,jk.output,jk.size,fun k hk=>by rw [old1 k (by omega),HB1.out.block k (by omega),HB0.out.block k hk]⟩
 have HJ1:=Yh j1
 have HJ2:=Yh j2
 have x5_0:w9.cell? ⟨w1.heap.size,0,none⟩=some (.int .u32 a):=Yaa j5 rfl
 have x1_0:w9.cell? ⟨w.heap.size+1,0,none⟩=some (.int .u32 0):=Yaa j1 rfl
 have y1_0:=Yah 0 j1
 have x5_1:w9.cell? ⟨w1.heap.size,1,none⟩=some (.int .u32 b):=Yaa j5 rfl
 have x1_1:w9.cell? ⟨w.heap.size+1,1,none⟩=some (.int .u32 0):=Yaa j1 rfl
 have y1_1:=Yah 1 j1
 have x9_0:w9.cell? ⟨w1.heap.size+2,0,none⟩=some (.int .i64 kind):=Yaa j9 rfl
 have x2_0:w9.cell? ⟨w.heap.size+1+1,0,none⟩=some (.int .i64 0):=Yaa j2 rfl
 have y2_0:=Yah 0 j2
 have x9_1:w9.cell? ⟨w1.heap.size+2,1,none⟩=some (.int .i64 tx):=Yaa j9 rfl
 have x2_1:w9.cell? ⟨w.heap.size+1+1,1,none⟩=some (.int .i64 0):=Yaa j2 rfl
 have y2_1:=Yah 1 j2
 have x9_2:w9.cell? ⟨w1.heap.size+2,2,none⟩=some (.int .i64 prev):=Yaa j9 rfl
 have x2_2:w9.cell? ⟨w.heap.size+1+1,2,none⟩=some (.int .i64 0):=Yaa j2 rfl
 have y2_2:=Yah 2 j2
 have x9_3:w9.cell? ⟨w1.heap.size+2,3,none⟩=some (.int .i64 next):=Yaa j9 rfl
 have x2_3:w9.cell? ⟨w.heap.size+1+1,3,none⟩=some (.int .i64 0):=Yaa j2 rfl
 have y2_3:=Yah 3 j2
 have x9_4:w9.cell? ⟨w1.heap.size+2,4,none⟩=some (.string key):=Yaa j9 rfl
 have x2_4:w9.cell? ⟨w.heap.size+1+1,4,none⟩=some (.string ⟨#[]⟩):=Yaa j2 rfl
 have y2_4:=Yah 4 j2
 have x9_5:w9.cell? ⟨w1.heap.size+2,5,none⟩=some (.bool oldIs):=Yaa j9 rfl
 have x2_5:w9.cell? ⟨w.heap.size+1+1,5,none⟩=some (.bool false):=Yaa j2 rfl
 have y2_5:=Yah 5 j2
 have x9_6:w9.cell? ⟨w1.heap.size+2,6,none⟩=some (.string old):=Yaa j9 rfl
 have x2_6:w9.cell? ⟨w.heap.size+1+1,6,none⟩=some (.string ⟨#[]⟩):=Yaa j2 rfl
 have y2_6:=Yah 6 j2
 have x9_7:w9.cell? ⟨w1.heap.size+2,7,none⟩=some (.bool newIs):=Yaa j9 rfl
 have x2_7:w9.cell? ⟨w.heap.size+1+1,7,none⟩=some (.bool false):=Yaa j2 rfl
 have y2_7:=Yah 7 j2
 have x9_8:w9.cell? ⟨w1.heap.size+2,8,none⟩=some (.string new):=Yaa j9 rfl
 have x2_8:w9.cell? ⟨w.heap.size+1+1,8,none⟩=some (.string ⟨#[]⟩):=Yaa j2 rfl
 have y2_8:=Yah 8 j2
 clear j1 j2 j5 j9 jo jk old1 jz HO5 HO8 HZ5 HZ8 HK8 HK9 HR8 HM8 HB1 HM1 HE HH1 HH2 HB0 HQ1 HQ2 HQ3 HQ4 HHOI HHNI f4 f5 f6 f7 f8 g4 g5 g6 g7 g8 g9
 go_region
 all_goals
  go_wp2;have z1:((w9.setCell ⟨w.heap.size+1,0,none⟩ (.int .u32 a)).setCell ⟨w.heap.size+1,1,none⟩ (.int .u32 b)).heap[w.heap.size+1]? = some (.cells #[.int .u32 a,.int .u32 b] 168):=Yak _ _ 1 _ _ 168 (Yak w9 _ 0 (.int .u32 a) _ 168 HJ1.out);have z2:((w9.setCell ⟨w.heap.size+1,0,none⟩ (.int .u32 a)).setCell ⟨w.heap.size+1,1,none⟩ (.int .u32 b)).heap[w.heap.size+1+1]? = some (.cells #[.int .i64 0,.int .i64 0,.int .i64 0,.int .i64 0,.string ⟨#[]⟩,.bool false,.string ⟨#[]⟩,.bool false,.string ⟨#[]⟩] 152):=by rw [Below.heap_setCell _ _ _ _ (by simp),Below.heap_setCell _ _ _ _ (by simp)];exact HJ2.out
  have z3:(((((((((((w9.setCell ⟨w.heap.size+1,0,none⟩ (.int .u32 a)).setCell ⟨w.heap.size+1,1,none⟩ (.int .u32 b)).setCell ⟨w.heap.size+1+1,0,none⟩ (.int .i64 kind)).setCell ⟨w.heap.size+1+1,1,none⟩ (.int .i64 tx)).setCell ⟨w.heap.size+1+1,2,none⟩ (.int .i64 prev)).setCell ⟨w.heap.size+1+1,3,none⟩ (.int .i64 next)).setCell ⟨w.heap.size+1+1,4,none⟩ (.string key)).setCell ⟨w.heap.size+1+1,5,none⟩ (.bool oldIs)).setCell ⟨w.heap.size+1+1,6,none⟩ (.string old)).setCell ⟨w.heap.size+1+1,7,none⟩ (.bool newIs)).setCell ⟨w.heap.size+1+1,8,none⟩ (.string new)).heap[w.heap.size+1+1]? = some (.cells #[.int .i64 kind,.int .i64 tx,.int .i64 prev,.int .i64 next,.string key,.bool oldIs,.string old,.bool newIs,.string new] 152):=(Yak _ _ 8 (.string new) _ 152 (Yak _ _ 7 (.bool newIs) _ 152 (Yak _ _ 6 (.string old) _ 152 (Yak _ _ 5 (.bool oldIs) _ 152 (Yak _ _ 4 (.string key) _ 152 (Yak _ _ 3 (.int .i64 next) _ 152 (Yak _ _ 2 (.int .i64 prev) _ 152 (Yak _ _ 1 (.int .i64 tx) _ 152 (Yak _ _ 0 (.int .i64 kind) _ 152 z2)))))))));have z4:(((((((((((w9.setCell ⟨w.heap.size+1,0,none⟩ (.int .u32 a)).setCell ⟨w.heap.size+1,1,none⟩ (.int .u32 b)).setCell ⟨w.heap.size+1+1,0,none⟩ (.int .i64 kind)).setCell ⟨w.heap.size+1+1,1,none⟩ (.int .i64 tx)).setCell ⟨w.heap.size+1+1,2,none⟩ (.int .i64 prev)).setCell ⟨w.heap.size+1+1,3,none⟩ (.int .i64 next)).setCell ⟨w.heap.size+1+1,4,none⟩ (.string key)).setCell ⟨w.heap.size+1+1,5,none⟩ (.bool oldIs)).setCell ⟨w.heap.size+1+1,6,none⟩ (.string old)).setCell ⟨w.heap.size+1+1,7,none⟩ (.bool newIs)).setCell ⟨w.heap.size+1+1,8,none⟩ (.string new)).heap[w.heap.size+1]? = some (.cells #[.int .u32 a,.int .u32 b] 168):=by
   rw [Below.heap_setCell _ _ _ _ (by simp),Below.heap_setCell _ _ _ _ (by simp),Below.heap_setCell _ _ _ _ (by simp),Below.heap_setCell _ _ _ _ (by simp),Below.heap_setCell _ _ _ _ (by simp),Below.heap_setCell _ _ _ _ (by simp),Below.heap_setCell _ _ _ _ (by simp),Below.heap_setCell _ _ _ _ (by simp),Below.heap_setCell _ _ _ _ (by simp)];exact z1
  have zb:Below w.heap.size w (((((((((((w9.setCell ⟨w.heap.size+1,0,none⟩ (.int .u32 a)).setCell ⟨w.heap.size+1,1,none⟩ (.int .u32 b)).setCell ⟨w.heap.size+1+1,0,none⟩ (.int .i64 kind)).setCell ⟨w.heap.size+1+1,1,none⟩ (.int .i64 tx)).setCell ⟨w.heap.size+1+1,2,none⟩ (.int .i64 prev)).setCell ⟨w.heap.size+1+1,3,none⟩ (.int .i64 next)).setCell ⟨w.heap.size+1+1,4,none⟩ (.string key)).setCell ⟨w.heap.size+1+1,5,none⟩ (.bool oldIs)).setCell ⟨w.heap.size+1+1,6,none⟩ (.string old)).setCell ⟨w.heap.size+1+1,7,none⟩ (.bool newIs)).setCell ⟨w.heap.size+1+1,8,none⟩ (.string new)):=(((((((((((HBW.out.setCell (p:=⟨w.heap.size+1,0,none⟩) (by simp) _).setCell (p:=⟨w.heap.size+1,1,none⟩) (by simp) _).setCell (p:=⟨w.heap.size+1+1,0,none⟩) (by simp;omega) _).setCell (p:=⟨w.heap.size+1+1,1,none⟩) (by simp;omega) _).setCell (p:=⟨w.heap.size+1+1,2,none⟩) (by simp;omega) _).setCell (p:=⟨w.heap.size+1+1,3,none⟩) (by simp;omega) _).setCell (p:=⟨w.heap.size+1+1,4,none⟩) (by simp;omega) _).setCell (p:=⟨w.heap.size+1+1,5,none⟩) (by simp;omega) _).setCell (p:=⟨w.heap.size+1+1,6,none⟩) (by simp;omega) _).setCell (p:=⟨w.heap.size+1+1,7,none⟩) (by simp;omega) _).setCell (p:=⟨w.heap.size+1+1,8,none⟩) (by simp;omega) _);have m0:=Yaa (j:=0) z4 rfl;have m1:=Yaa (j:=1) z4 rfl;have p0:=Yaa (j:=0) z3 rfl;have p1:=Yaa (j:=1) z3 rfl;have p2:=Yaa (j:=2) z3 rfl;have p3:=Yaa (j:=3) z3 rfl;have p4:=Yaa (j:=4) z3 rfl;have p5:=Yaa (j:=5) z3 rfl;have p6:=Yaa (j:=6) z3 rfl;have p7:=Yaa (j:=7) z3 rfl;have p8:=Yaa (j:=8) z3 rfl;refine bodyPost_ret (v:=.tuple #[.agg #[.int .u32 a,.int .u32 b],.agg #[.int .i64 kind,.int .i64 tx,.int .i64 prev,.int .i64 next,.string key,.bool oldIs,.string old,.bool newIs,.string new],.bool true]) ?_ rfl ⟨rfl,zb.drew⟩;simp [results,Tryz.results148,go_sem,m0,m1,p0,p1,p2,p3,p4,p5,p6,p7,p8]
end Go.Proofs.YtihbngfbcnojcaaGreat
