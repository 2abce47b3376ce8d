import Derived.Test.YtihbngfbcnojcaaGreatActC12
import Derived.Shelf.SlIter.Nil
import Derived.Shelf.SortM.Plain
import Derived.Shelf.SortM.SortNone
set_option maxRecDepth 100000
set_option maxHeartbeats 8000000
namespace Go.Proofs.YtihbngfbcnojcaaGreat
open Go.RowKit Tryz
variable {ks:List Int} {done:List Nat} {s s0:Sv} {w w':World}
theorem Yl0 (s:Sv) (c:Nat→Ybq×Ybq) (tag:Tag):({ s with cp:=c }:Sv).blk tag=s.blk tag:=by cases tag using Tag.elim with | _=>rfl
theorem Yan.ghost (h:Yan w s) (c:Nat→Ybq×Ybq):Yan w { s with cp:=c }:=
 ⟨fun tag=>by have h0:=h.comp tag;cases tag using Tag.elim with | _=>exact h0,fun a b k h1 h2=>h.apart a b k ((Yl0 s c a).symm.trans h1) ((Yl0 s c b).symm.trans h2),fun tag k hk=>h.lt tag k ((Yl0 s c tag).symm.trans hk)⟩
theorem Ybg.ghost {s':Sv} (h:Ybg w w' s s') (c:Nat→Ybq×Ybq):Ybg w w' s { s' with cp:=c }:=
 ⟨h.lies.ghost c,fun tag k hk=>h.grown tag k ((Yl0 s' c tag).symm.trans hk),h.off,h.below⟩
theorem Y0l (S0 S1:List Value) (h0:S0.length=64) (h1:S1.length=64) (w:World):(Instr.index 256 (.agg (S0 ++ S1).toArray) (.int .i64 0)).run prog w=.ok (.agg S0.toArray) w∧(Instr.index 256 (.agg (S0 ++ S1).toArray) (.int .i64 1)).run prog w=.ok (.agg S1.toArray) w:=by
 have hu:=underlying256;have hb:=underlying98;have hz:(prog.info? 98).map (·.size)=some 64:=by kernel_rfl
 have t0:List.take 64 (S0 ++ S1)=S0:=by rw [←h0];simp
 have t1:List.take 64 (List.drop 64 (S0 ++ S1))=S1:=by
  have e:List.drop 64 (S0 ++ S1)=S1:=by rw [←h0];simp
  rw [e,List.take_of_length_le (by omega)]
 cases hq:prog.info? 98 with
 | none=>simp [hq] at hz
 | some i=>
  have hi:i.size=64:=by simpa [hq] using hz
  constructor
  ·simp [Instr.index,asIntOf,run_underlying hu,sizeOf,typeInfo,hq,hi,part,t0]
  ·simp [Instr.index,asIntOf,run_underlying hu,sizeOf,typeInfo,hq,hi,part,t1]
def PwI (w wr:World) (s0 s:Sv) (done:List Nat) (n A:Nat) (S0:List Value):Nat→Prop
 | 0=>Ybg w wr s (Yew s)
 | 1=>∃ v1,Ybg w wr s (Ygu (Yew s) A S0 v1)
 | _=>∃ s',Fl s0 s' (done ++ [n])∧Ybg w wr s s'
theorem Y0m (h:Yan w s) (F:Fl s0 s done) (g:Yar s0) (n:Nat) (hn:n<8) (hnd:n∉done) (hd:done.length≤8) (p:PgV) (hp:s0.pgs n=some p) (hne:∀ q∈s0.cont n,1≤q.1.size):
 Calls prog 116 #[.pointer (some ⟨s0.kb,2,none⟩),.int .i64 (n:Int)] w fun e w'=>e=.returned (.tuple #[])∧∃ s',Fl s0 s' (done ++ [n])∧Ybg w w' s s':=by
 have hps:s.pgs n=some p:=by obtain ⟨c,D,ws,v,cp,rfl⟩:=F.same;exact hp
 have hkb:s.kb=s0.kb:=by obtain ⟨c,D,ws,v,cp,rfl⟩:=F.same;rfl
 have hst:s.start=s0.start:=by obtain ⟨c,D,ws,v,cp,rfl⟩:=F.same;rfl
 have hcn:s.cont=s0.cont:=by obtain ⟨c,D,ws,v,cp,rfl⟩:=F.same;rfl
 have hmp:s.mp=s0.mp:=by obtain ⟨c,D,ws,v,cp,rfl⟩:=F.same;rfl
 obtain ⟨r1,r2,r3⟩:=g.rise n hn
 have hturn:p.turn<2:=by rw [(g.load n hn).turn p hp];exact Y0h _ _
 have hct0:=g.ct
 have hac:=g.ac
 have hln:=g.ln
 have hsc:=F.ct
 have hpg:w.heap[p.g]? = some (.cells #[.int .i64 (p.turn:Int),p.v] 180 (0,0)):=h.comp (.page n) p hps
 have hrow:w.ownsRow 0 43 2 p.v (s0.cont n).length (Yad (s0.cont n)):=by have:=h.comp (.row n) p hps;rw [hcn] at this;exact this
 have c2:w.cell? ⟨s0.kb,2,none⟩=some (.pointer (some ⟨s.vb,0,none⟩)):=by rw [←hkb];exact Yaa (h.comp .kind) (Yb1 s (by omega) rfl)
 have c3:w.cell? ⟨s0.kb,2+1,none⟩=some (.map (some s.mp.b)):=by rw [←hkb];exact Yaa (h.comp .kind) (Yb1 s (j:=3) (by omega) rfl)
 have v0:w.cell? ⟨s.vb,0,none⟩=some (.pointer (some ⟨s.db,0,none⟩)):=Yaa (h.comp .vol) rfl
 have pg0:=Yaa (j:=0) hpg rfl
 have pg1:=Yaa (j:=1) hpg rfl
 have KPG:Hid (Calls prog 111 #[.pointer (some ⟨s0.kb,2,none⟩),.int .i64 (n:Int)] w fun e w'=>e=.returned (.pointer (some ⟨p.g,0,none⟩))∧w=w'):=Yra s0.kb 2 s.mp.b s.mp.n n p.g s.mp.M w hn c3 (h.comp .mp) (by rw [hmp];exact g.have' n p hn hp _)
 obtain ⟨T,hT⟩:∃ T,T=1 - p.turn:=⟨_,rfl⟩
 have hT2:T<2:=by omega
 have hTc:(1:Int) - (p.turn:Int)=(T:Int):=by omega
 obtain ⟨A,hA⟩:∃ A,A=2+(n*2+T)*2:=⟨_,rfl⟩
 have hA4:A+1<34:=by omega
 have KPA:Hid (∀ W,Calls prog 164 #[.int .i64 (n:Int),.int .i64 (T:Int)] W fun e w'=>e=.returned (.int .i64 (A:Int))∧W=w'):=fun W=>by rw [hA];exact Ynk n T W (by omega) (by omega)
 have KO:Hid (∀ W,Calls prog 122 #[.int .i64 (p.turn:Int)] W fun e w'=>e=.returned (.int .i64 (T:Int))∧W=w'):=fun W=>by rw [←hTc];exact Yq1 _ W (by omega) (by omega)
 have KST:Hid (∀ W,Ybg w W s s→Calls prog 124 #[.pointer (some ⟨s.vb,0,none⟩)] W fun e w'=>e=.returned (.agg #[.int .u32 s0.start,.int .u32 (s.count+1)])∧Ybg w w' s (Yew s)):=fun W hW=>by
  refine (Y0f hW.lies ⟨by omega,by omega⟩).mono ?_;rintro e w' ⟨h1,h2⟩;rw [hst] at h1;exact ⟨h1,hW.trans h2⟩
 have HCL:Hid (∀ W s',Ybg w W s s'→(∃ c D ws v cp,s' = { s with count:=c,D:=D,ws:=ws,v:=v,cp:=cp })→W.cell? ⟨s0.kb,2,none⟩=some (.pointer (some ⟨s.vb,0,none⟩))∧W.cell? ⟨s.vb,0,none⟩=some (.pointer (some ⟨s.db,0,none⟩))∧W.cell? ⟨p.g,1,none⟩=some p.v∧W.ownsRow 0 43 2 p.v (s0.cont n).length (Yad (s0.cont n))):=fun W s' hW hs'=>by
  obtain ⟨c,D,ws,v,cp,rfl⟩:=hs';refine ⟨?_,Yaa (hW.lies.comp .vol) rfl,Yaa (j:=1) (hW.lies.comp (.page n) p hps) rfl,?_⟩
  ·rw [←hkb]
   have h9:W.cell? ⟨s.kb,2,none⟩=some (.pointer (some ⟨s.vb,0,none⟩)):=Yaa (hW.lies.comp .kind) (Yb1 s (by omega) rfl);exact h9
  ·have:=hW.lies.comp (.row n) p hps
   have e9:({ s with count:=c,D:=D,ws:=ws,v:=v,cp:=cp }:Sv).cont=s0.cont:=hcn;rw [e9] at this;exact this
 have KPK:Hid (∀ W,W.ownsRow 0 43 2 p.v (s0.cont n).length (Yad (s0.cont n))→Calls prog 165 #[.agg #[.int .u32 s0.start,.int .u32 (s.count+1)],p.v] W fun r w'=>r=.returned (.agg (Yam s0.start (s.count+1) (Ybb (s0.cont n) 0) ++ Yam s0.start (s.count+1) (Ybb (s0.cont n) 1)).toArray)∧Below W.heap.size W w'):=fun W hW=>Y0e s0.start (s.count+1) 0 p.v (s0.cont n) W g.st.1 (by have:=g.st.2;omega) (by omega) (by omega) hW r2 r3
 obtain ⟨S0,hS0⟩:∃ S0,S0=Yam s0.start (s.count+1) (Ybb (s0.cont n) 0):=⟨_,rfl⟩
 obtain ⟨S1,hS1⟩:∃ S1,S1=Yam s0.start (s.count+1) (Ybb (s0.cont n) 1):=⟨_,rfl⟩
 have hl0:S0.length=64:=by rw [hS0];exact Yeh _ _ _ (by rw [Yly r3];omega)
 have hl1:S1.length=64:=by rw [hS1];exact Yeh _ _ _ (by rw [Yly r3];omega)
 have ho0:∀ u∈S0,u.oneCell'=true:=by rw [hS0];exact Yf1 _ _ _ (Yjc _ 0)
 have ho1:∀ u∈S1,u.oneCell'=true:=by rw [hS1];exact Yf1 _ _ _ (Yjc _ 1)
 have KW0:Hid (∀ W,Ybg w W s (Yew s)→Calls prog 119 #[.pointer (some ⟨s.db,0,none⟩),.int .i64 (A:Int),.agg S0.toArray] W fun e w'=>e=.returned (.tuple #[])∧(∃ v1,Ybg w w' s (Ygu (Yew s) A S0 v1))∧∀ q,q<W.heap.size→(∀ tag,(Yew s).blk tag≠some q)→w'.heap[q]? = W.heap[q]?):=fun W hW=>by
  refine (Ysq hW.lies F.dv F.fuse (by show s.ws.length≤1000;rw [F.wn];omega) A S0 hl0 ho0).mono ?_;rintro e w' ⟨h1,v1,h2⟩;exact ⟨h1,⟨v1,hW.trans h2⟩,h2.off⟩
 have KW1:Hid (∀ W v1,Ybg w W s (Ygu (Yew s) A S0 v1)→Calls prog 119 #[.pointer (some ⟨s.db,0,none⟩),.int .i64 ((A:Int)+1),.agg S1.toArray] W fun e w'=>e=.returned (.tuple #[])∧(∃ s',Fl s0 s' (done ++ [n])∧Ybg w w' s s')∧∀ q,q<W.heap.size→(∀ tag,(Ygu (Yew s) A S0 v1).blk tag≠some q)→w'.heap[q]? = W.heap[q]?):=fun W v1 hW=>by
  have e1:((A+1:Nat):Int)=(A:Int)+1:=by omega
  have K:=Ysq hW.lies (by show (s.D.setIfInBounds 27776 v1)[27776]? = some v1;exact Array.getElem?_setIfInBounds_self_of_lt (by rw [F.dsz];omega)) (by show (s.D.setIfInBounds 27776 v1)[27777]? = _;rw [Array.getElem?_setIfInBounds_ne (by omega)];exact F.fuse) (by show (s.ws ++ [_]).length≤1000;rw [List.length_append,F.wn];simp;omega) (A+1) S1 hl1 ho1;rw [e1] at K;refine K.mono ?_;rintro e w' ⟨h1,v2,h2⟩;refine ⟨h1,⟨Ygw s n T (Yd1 s0.start (s.count+1) (s0.cont n)) S0 S1 v1 v2,?_,?_⟩,h2.off⟩
  ·rw [hS0,hS1];exact F.step g n hn hnd hd hne T hT2 v1 v2
  ·have h3:=(hW.trans h2).ghost (fun m=>if m=n then Ygv (s.cp n) T (Yd1 s0.start (s.count+1) (s0.cont n)) else s.cp m)
   unfold Ygw;rw [←hA];exact h3
 have HREF:Hid (Ybg w w s s):=Ybg.refl h
 have HL:=Yh h
 have HF:=Yh F
 have hub:=underlying98
 rw [←hS0,←hS1] at KPK
 generalize hkb0:s0.kb=kb at c2 c3 KPG HCL
 generalize s0.start=st0 at KST KPK
 have hg5:=hpg
 clear hps hkb hst hcn hmp r1 r2 r3 hct0 hac hln hsc hpg hrow hne hnd hd F g hp hS0 hS1 hTc hT h hA hT2
 have HIX:Hid (∀ w,(Instr.index 256 (.agg (S0 ++ S1).toArray) (.int .i64 0)).run prog w=.ok (.agg S0.toArray) w∧(Instr.index 256 (.agg (S0 ++ S1).toArray) (.int .i64 1)).run prog w=.ok (.agg S1.toArray) w):=fun w=>Y0l S0 S1 hl0 hl1 w
 go_enter func116,ntmps116
 go_wp2_with (first
  | (go_at_call 111;go_must (refine KPG.out.mono ?_;rintro e w' ⟨rfl,rfl⟩))
  | (go_at_call 122;go_must (refine (KO.out _).mono ?_;rintro e w' ⟨rfl,rfl⟩))
  | (go_at_call 164;go_must (refine (KPA.out _).mono ?_;rintro e w' ⟨rfl,rfl⟩)))
 go_region_held3 (fun w'=>w'.cell? ⟨kb,2,none⟩=some (.pointer (some ⟨s.vb,0,none⟩))∧w'.cell? ⟨p.g,1,none⟩=some p.v)
  (go_keep)
  (first
   | (go_at_call 124;go_must (
    refine (KST.out _ HREF.out.drew).mono ?_;rintro e w1 ⟨rfl,hm1⟩;have HM1:=Yh hm1;obtain ⟨d2,_,d1,hr1⟩:=HCL.out w1 _ hm1 ⟨_,_,_,_,_,rfl⟩;have HR1:=Yh hr1;clear hm1 hr1))
   | (go_at_call 165;go_must (
    refine (KPK.out w1 HR1.out).mono ?_;rintro e w2 ⟨rfl,hb2⟩;have hm2:=HM1.out.trans (Ybg.of_below HM1.out.lies hb2);have HM2:=Yh hm2;obtain ⟨f2,_,f1,_⟩:=HCL.out w2 _ hm2 ⟨_,_,_,_,_,rfl⟩;clear hm2 hb2)))
 all_goals
  go_wp2;go_loopw [28] (fun i wr=>∃ k:Nat,k≤2∧i=.int .i64 k∧PwI w wr s0 s done n A S0 k) (fun i _=>2 - (intOf i).toNat)
  case atStart=>exact ⟨0,by omega,rfl,HM2.out⟩
  case round=>
   obtain ⟨k,hk,rfl,hrel⟩:=hrel;have hk3:k=0∨k=1∨k=2:=by omega
   rcases hk3 with rfl | rfl | rfl
   ·have HR:=Yh hrel
    have hix:=(HIX.out wr).1;have hz:=heap_alloc_new wr (.cells #[.int .u8 0,.int .u8 0,.int .u8 0,.int .u8 0,.int .u8 0,.int .u8 0,.int .u8 0,.int .u8 0,.int .u8 0,.int .u8 0,.int .u8 0,.int .u8 0,.int .u8 0,.int .u8 0,.int .u8 0,.int .u8 0,.int .u8 0,.int .u8 0,.int .u8 0,.int .u8 0,.int .u8 0,.int .u8 0,.int .u8 0,.int .u8 0,.int .u8 0,.int .u8 0,.int .u8 0,.int .u8 0,.int .u8 0,.int .u8 0,.int .u8 0,.int .u8 0,.int .u8 0,.int .u8 0,.int .u8 0,.int .u8 0,.int .u8 0,.int .u8 0,.int .u8 0,.int .u8 0,.int .u8 0,.int .u8 0,.int .u8 0,.int .u8 0,.int .u8 0,.int .u8 0,.int .u8 0,.int .u8 0,.int .u8 0,.int .u8 0,.int .u8 0,.int .u8 0,.int .u8 0,.int .u8 0,.int .u8 0,.int .u8 0,.int .u8 0,.int .u8 0,.int .u8 0,.int .u8 0,.int .u8 0,.int .u8 0,.int .u8 0,.int .u8 0] 98);have hrun:=Yni (wr.alloc (.cells #[.int .u8 0,.int .u8 0,.int .u8 0,.int .u8 0,.int .u8 0,.int .u8 0,.int .u8 0,.int .u8 0,.int .u8 0,.int .u8 0,.int .u8 0,.int .u8 0,.int .u8 0,.int .u8 0,.int .u8 0,.int .u8 0,.int .u8 0,.int .u8 0,.int .u8 0,.int .u8 0,.int .u8 0,.int .u8 0,.int .u8 0,.int .u8 0,.int .u8 0,.int .u8 0,.int .u8 0,.int .u8 0,.int .u8 0,.int .u8 0,.int .u8 0,.int .u8 0,.int .u8 0,.int .u8 0,.int .u8 0,.int .u8 0,.int .u8 0,.int .u8 0,.int .u8 0,.int .u8 0,.int .u8 0,.int .u8 0,.int .u8 0,.int .u8 0,.int .u8 0,.int .u8 0,.int .u8 0,.int .u8 0,.int .u8 0,.int .u8 0,.int .u8 0,.int .u8 0,.int .u8 0,.int .u8 0,.int .u8 0,.int .u8 0,.int .u8 0,.int .u8 0,.int .u8 0,.int .u8 0,.int .u8 0,.int .u8 0,.int .u8 0,.int .u8 0] 98)) wr.heap.size _ 98 S0 hz (by rw [hl0];rfl) ho0;obtain ⟨W3,hW3⟩:∃ W3,W3=(wr.alloc (.cells #[.int .u8 0,.int .u8 0,.int .u8 0,.int .u8 0,.int .u8 0,.int .u8 0,.int .u8 0,.int .u8 0,.int .u8 0,.int .u8 0,.int .u8 0,.int .u8 0,.int .u8 0,.int .u8 0,.int .u8 0,.int .u8 0,.int .u8 0,.int .u8 0,.int .u8 0,.int .u8 0,.int .u8 0,.int .u8 0,.int .u8 0,.int .u8 0,.int .u8 0,.int .u8 0,.int .u8 0,.int .u8 0,.int .u8 0,.int .u8 0,.int .u8 0,.int .u8 0,.int .u8 0,.int .u8 0,.int .u8 0,.int .u8 0,.int .u8 0,.int .u8 0,.int .u8 0,.int .u8 0,.int .u8 0,.int .u8 0,.int .u8 0,.int .u8 0,.int .u8 0,.int .u8 0,.int .u8 0,.int .u8 0,.int .u8 0,.int .u8 0,.int .u8 0,.int .u8 0,.int .u8 0,.int .u8 0,.int .u8 0,.int .u8 0,.int .u8 0,.int .u8 0,.int .u8 0,.int .u8 0,.int .u8 0,.int .u8 0,.int .u8 0,.int .u8 0] 98)).setRow wr.heap.size S0.toArray:=⟨_,rfl⟩;have hb3:Below wr.heap.size wr W3:=by rw [hW3];exact ((Below.refl _ wr).alloc (Nat.le_refl _) _).trans (Ylk _ _ _)
    have hz3:wr.heap.size<W3.heap.size:=by rw [hW3];simp [World.setRow]
    have hq3:W3.heap[wr.heap.size]? = some (.cells S0.toArray 98 (0,0)):=by rw [hW3];exact setRow_heap _ _ _ _ _ (0,0) hz
    have HM3:Hid (Ybg w W3 s (Yew s)):=HR.out.trans (Ybg.of_below HR.out.lies hb3);have HQ3:=Yh hq3;have HZ3:=Yh hz3;obtain ⟨m2,m0,_,_⟩:=HCL.out W3 _ HM3.out ⟨_,_,_,_,_,rfl⟩;have hrg:W3.rangeAt wr.heap.size 0 S0:=fun j u hu=>by rw [Nat.zero_add];exact Yaa hq3 (by simpa using hu)
    have hi:(prog.info? 98).map (·.size)=some S0.length:=by rw [hl0];kernel_rfl
    have hwA:IntKind.i64.wrap (A:Int)=(A:Int):=by rw [IntKind.wrap_i64];omega
    have HPT:Hid (∀ tag,(Yew s).blk tag≠some wr.heap.size):=fun tag ht=>by have:=HR.out.lies.lt tag _ ht;omega
    rw [←hW3] at hrun;clear hrel hz hb3 hq3 hz3 hW3;rw [show ((0:Nat):Int)=0 from rfl];go_upto_region 5 with fail
    clear hrun hix;go_region_held3 (fun w'=>w'.cell? ⟨kb,2,none⟩=some (.pointer (some ⟨s.vb,0,none⟩))∧w'.cell? ⟨s.vb,0,none⟩=some (.pointer (some ⟨s.db,0,none⟩))∧w'.rangeAt wr.heap.size 0 S0)
     (first | exact ⟨m2',m0',hrg'⟩ | exact ⟨m2,m0,hrg⟩)
     (first | (go_at_call 119;go_must (
      refine (KW0.out _ HM3.out.drew).mono ?_;rintro e w5 ⟨rfl,hm5,hf5⟩;have HM5:=Yh hm5;obtain ⟨m2',m0'⟩:w5.cell? ⟨kb,2,none⟩=some (.pointer (some ⟨s.vb,0,none⟩))∧w5.cell? ⟨s.vb,0,none⟩=some (.pointer (some ⟨s.db,0,none⟩)):=(by obtain ⟨v1,hm⟩:=hm5;obtain ⟨x,y,_,_⟩:=HCL.out w5 _ hm ⟨_,_,_,_,_,rfl⟩;exact ⟨x,y⟩);have hrg':w5.rangeAt wr.heap.size 0 S0:=fun j u hu=>by rw [Nat.zero_add];exact Yaa ((hf5 _ HZ3.out HPT.out).trans HQ3.out) (by simpa using hu)
      clear hm5 hf5)))
    all_goals
     go_wp2;exact ⟨⟨0+1,by omega,rfl,HM5.out⟩,by simp [intOf]⟩
   ·obtain ⟨v1,hrel⟩:=hrel
    have HR:=Yh hrel;have hix:=(HIX.out wr).2;have hz:=heap_alloc_new wr (.cells #[.int .u8 0,.int .u8 0,.int .u8 0,.int .u8 0,.int .u8 0,.int .u8 0,.int .u8 0,.int .u8 0,.int .u8 0,.int .u8 0,.int .u8 0,.int .u8 0,.int .u8 0,.int .u8 0,.int .u8 0,.int .u8 0,.int .u8 0,.int .u8 0,.int .u8 0,.int .u8 0,.int .u8 0,.int .u8 0,.int .u8 0,.int .u8 0,.int .u8 0,.int .u8 0,.int .u8 0,.int .u8 0,.int .u8 0,.int .u8 0,.int .u8 0,.int .u8 0,.int .u8 0,.int .u8 0,.int .u8 0,.int .u8 0,.int .u8 0,.int .u8 0,.int .u8 0,.int .u8 0,.int .u8 0,.int .u8 0,.int .u8 0,.int .u8 0,.int .u8 0,.int .u8 0,.int .u8 0,.int .u8 0,.int .u8 0,.int .u8 0,.int .u8 0,.int .u8 0,.int .u8 0,.int .u8 0,.int .u8 0,.int .u8 0,.int .u8 0,.int .u8 0,.int .u8 0,.int .u8 0,.int .u8 0,.int .u8 0,.int .u8 0,.int .u8 0] 98);have hrun:=Yni (wr.alloc (.cells #[.int .u8 0,.int .u8 0,.int .u8 0,.int .u8 0,.int .u8 0,.int .u8 0,.int .u8 0,.int .u8 0,.int .u8 0,.int .u8 0,.int .u8 0,.int .u8 0,.int .u8 0,.int .u8 0,.int .u8 0,.int .u8 0,.int .u8 0,.int .u8 0,.int .u8 0,.int .u8 0,.int .u8 0,.int .u8 0,.int .u8 0,.int .u8 0,.int .u8 0,.int .u8 0,.int .u8 0,.int .u8 0,.int .u8 0,.int .u8 0,.int .u8 0,.int .u8 0,.int .u8 0,.int .u8 0,.int .u8 0,.int .u8 0,.int .u8 0,.int .u8 0,.int .u8 0,.int .u8 0,.int .u8 0,.int .u8 0,.int .u8 0,.int .u8 0,.int .u8 0,.int .u8 0,.int .u8 0,.int .u8 0,.int .u8 0,.int .u8 0,.int .u8 0,.int .u8 0,.int .u8 0,.int .u8 0,.int .u8 0,.int .u8 0,.int .u8 0,.int .u8 0,.int .u8 0,.int .u8 0,.int .u8 0,.int .u8 0,.int .u8 0,.int .u8 0] 98)) wr.heap.size _ 98 S1 hz (by rw [hl1];rfl) ho1;obtain ⟨W3,hW3⟩:∃ W3,W3=(wr.alloc (.cells #[.int .u8 0,.int .u8 0,.int .u8 0,.int .u8 0,.int .u8 0,.int .u8 0,.int .u8 0,.int .u8 0,.int .u8 0,.int .u8 0,.int .u8 0,.int .u8 0,.int .u8 0,.int .u8 0,.int .u8 0,.int .u8 0,.int .u8 0,.int .u8 0,.int .u8 0,.int .u8 0,.int .u8 0,.int .u8 0,.int .u8 0,.int .u8 0,.int .u8 0,.int .u8 0,.int .u8 0,.int .u8 0,.int .u8 0,.int .u8 0,.int .u8 0,.int .u8 0,.int .u8 0,.int .u8 0,.int .u8 0,.int .u8 0,.int .u8 0,.int .u8 0,.int .u8 0,.int .u8 0,.int .u8 0,.int .u8 0,.int .u8 0,.int .u8 0,.int .u8 0,.int .u8 0,.int .u8 0,.int .u8 0,.int .u8 0,.int .u8 0,.int .u8 0,.int .u8 0,.int .u8 0,.int .u8 0,.int .u8 0,.int .u8 0,.int .u8 0,.int .u8 0,.int .u8 0,.int .u8 0,.int .u8 0,.int .u8 0,.int .u8 0,.int .u8 0] 98)).setRow wr.heap.size S1.toArray:=⟨_,rfl⟩;have hb3:Below wr.heap.size wr W3:=by rw [hW3];exact ((Below.refl _ wr).alloc (Nat.le_refl _) _).trans (Ylk _ _ _)
    have hz3:wr.heap.size<W3.heap.size:=by rw [hW3];simp [World.setRow]
    have hq3:W3.heap[wr.heap.size]? = some (.cells S1.toArray 98 (0,0)):=by rw [hW3];exact setRow_heap _ _ _ _ _ (0,0) hz
    have HM3:Hid (Ybg w W3 s (Ygu (Yew s) A S0 v1)):=HR.out.trans (Ybg.of_below HR.out.lies hb3);have HQ3:=Yh hq3;have HZ3:=Yh hz3;obtain ⟨m2,m0,_,_⟩:=HCL.out W3 _ HM3.out ⟨_,_,_,_,_,rfl⟩;have hrg:W3.rangeAt wr.heap.size 0 S1:=fun j u hu=>by rw [Nat.zero_add];exact Yaa hq3 (by simpa using hu)
    have hi:(prog.info? 98).map (·.size)=some S1.length:=by rw [hl1];kernel_rfl
    have hwA:IntKind.i64.wrap ((A:Int)+1)=(A:Int)+1:=by rw [IntKind.wrap_i64];omega
    have HPT:Hid (∀ tag,(Ygu (Yew s) A S0 v1).blk tag≠some wr.heap.size):=fun tag ht=>by have:=HR.out.lies.lt tag _ ht;omega
    rw [←hW3] at hrun;clear hrel hz hb3 hq3 hz3 hW3;rw [show ((1:Nat):Int)=1 from rfl];go_upto_region 5 with fail
    clear hrun hix;go_region_held3 (fun w'=>w'.cell? ⟨kb,2,none⟩=some (.pointer (some ⟨s.vb,0,none⟩))∧w'.cell? ⟨s.vb,0,none⟩=some (.pointer (some ⟨s.db,0,none⟩))∧w'.rangeAt wr.heap.size 0 S1)
     (first | exact ⟨m2',m0',hrg'⟩ | exact ⟨m2,m0,hrg⟩)
     (first | (go_at_call 119;go_must (
      refine (KW1.out _ v1 HM3.out.drew).mono ?_;rintro e w5 ⟨rfl,hm5,hf5⟩;have HM5:=Yh hm5;obtain ⟨m2',m0'⟩:w5.cell? ⟨kb,2,none⟩=some (.pointer (some ⟨s.vb,0,none⟩))∧w5.cell? ⟨s.vb,0,none⟩=some (.pointer (some ⟨s.db,0,none⟩)):=(by obtain ⟨s',h1,h2⟩:=hm5;obtain ⟨c,D,ws,v,cp,e1⟩:=HF.out.same;obtain ⟨c',D',ws',v',cp',e2⟩:=h1.same;obtain ⟨x,y,_,_⟩:=HCL.out w5 s' h2 ⟨c',D',ws',v',cp',by rw [e2,e1]⟩;exact ⟨x,y⟩);have hrg':w5.rangeAt wr.heap.size 0 S1:=fun j u hu=>by rw [Nat.zero_add];exact Yaa ((hf5 _ HZ3.out HPT.out).trans HQ3.out) (by simpa using hu)
      clear hm5 hf5)))
    all_goals
     go_wp2;exact ⟨⟨1+1,by omega,rfl,HM5.out⟩,by simp [intOf]⟩
   ·obtain ⟨s',h1,h2⟩:=hrel
    go_wp2;go_end0;exact ⟨rfl,s',h1,h2⟩
theorem Y0n (db:Nat) (D:Array Value) (w:World) (hD:w.heap[db]? = some (.cells D 103 (0,0))) (_hDz:D.size=27779) (hDv:D[27776]? = some (.slice none 0 0)):
 Calls prog 117 #[.pointer (some ⟨db,0,none⟩)] w fun e w'=>e=.returned (.tuple #[])∧w'.heap[db]? = some (.cells (D.setIfInBounds 27776 (.slice none 0 0)) 103 (0,0))∧(∀ k,k<w.heap.size→k≠db→w'.heap[k]? = w.heap[k]?)∧Below 0 w w':=by
 have hc:w.cell? ⟨db,27776,none⟩=some (.slice none 0 0):=Yaa hD hDv
 have hf:=Yah 27776 hD
 have HD:=Yh hD
 clear hD hDv
 go_enter func117,ntmps117
 go_wp2
 go_loopw [9] (fun i wr=>i=.int .i64 0∧wr=w) (fun _ _=>0)
 case atStart=>exact ⟨rfl,rfl⟩
 case round=>
  obtain ⟨rfl,rfl⟩:=hrel;go_wp2;go_end0;exact ⟨rfl,Yak _ db 27776 _ _ _ HD.out,fun k h1 h2=>Below.heap_setCell _ _ _ _ h2,(Below.refl _ _).setCell (p:=⟨db,27776,none⟩) (by simp) _⟩
theorem Y0o (h:Yan w s) (dsz:s.D.size=27779) (dv:s.D[27776]? = some s.v) (ok:Ydn s.ws) (wn:s.ws.length≤1000):
 Calls prog 117 #[.pointer (some ⟨s.db,0,none⟩)] w fun e w'=>e=.returned (.tuple #[])∧Ybg w w' s (synced s):=by
 have hown:w.ownsRow (s.db+1) 143 65 s.v s.ws.length (Ycs s.ws):=h.comp .uns
 have hB:∀ tag k,(synced s).blk tag=some k→s.blk tag=some k:=fun tag k hk=>by
  cases tag using Tag.elim with
  | uns=>simp [synced,Value.ownBlock] at hk
  | _=>exact hk
 have fin:∀ w',w'.heap[s.db]? = some (.cells ((Ybp s.D s.ws).setIfInBounds 27776 (.slice none 0 0)) 103 (0,0))→(∀ k,k<w.heap.size→k≠s.db→w'.heap[k]? = w.heap[k]?)→Below 0 w w'→Ybg w w' s (synced s):=fun w' k1 k2 k3=>by
  refine ⟨h.step (fun tag=>tag=.disk∨tag=.uns) ?_ ?_ ?_ ?_ ?_ k3.size,fun tag k hk=>.inl (hB tag k hk),fun k hk hnt=>k2 k hk (fun e=>hnt .disk (by rw [e];rfl)),k3⟩
  ·intro tag ht
   simp only [not_or] at ht
   cases tag using Tag.elim with
   | disk=>exact absurd rfl ht.1
   | uns=>exact absurd rfl ht.2
   | _=>exact ⟨rfl,fun W hW=>hW⟩
  ·intro tag k ht hk
   simp only [not_or] at ht;exact k2 k (h.lt tag k hk) (fun e=>ht.1 (h.apart tag .disk k hk (by rw [e];rfl)))
  ·rintro tag (rfl | rfl)
   ·exact k1
   ·exact World.ownsRow_nil _ _ _ _
  ·intro tag k _ hk
   exact .inl (hB tag k hk)
  ·intro a b k _ _ h1 h2
   exact h.apart a b k (hB a k h1) (hB b k h2)
 rcases hown.2 with ⟨h1,h2⟩ | ⟨gb,cap,cur,e1,hb,hgc,_,_,_,hcur⟩
 ·have hws:s.ws=[]:=List.length_eq_zero_iff.1 h2
  refine (Y0n s.db s.D w (h.comp .disk) dsz (by rw [dv,h1])).mono ?_;rintro e w' ⟨rfl,k1,k2,k3⟩;exact ⟨rfl,fin w' (by rw [hws];exact k1) k2 k3⟩
 ·have hdv:s.D[27776]? = some (.slice (some ⟨gb,0,none⟩) s.ws.length cap):=by rw [dv,e1]
  refine (Ym7 s.db (s.db+1) gb cap s.ws s.D cur w (by omega) hb ok (by omega) (h.comp .disk) dsz hdv hgc (fun j u hu=>?_)).mono ?_
  ·rw [←hcur,List.getElem?_take] at hu
   split at hu
   ·simpa using hu
   ·cases hu
  ·rintro e w' ⟨rfl,k1,k2,k3⟩
   exact ⟨rfl,fin w' k1 k2 k3⟩
def Yex (s:Sv):Sv:={ s with mp:=⟨s.mp.b,0,.map []⟩,pgs:=fun _=>none }
def Yn9 (s:Sv):Sv:={ s with mc:=⟨s.mc.b,0,.map []⟩ }
theorem Y0p (h:Yan w s) (h1:Yap w' 3 s.mp.b 0 (.map [])) (h2:∀ q,q≠s.mp.b→w'.heap[q]? = w.heap[q]?) (h3:w'.heap.size=w.heap.size) (h4:Below 0 w w'):Ybg w w' s (Yex s):=by
 have hB:∀ tag k,(Yex s).blk tag=some k→s.blk tag=some k:=fun tag k hk=>by
  cases tag using Tag.elim with
  | page n=>simp [Yex] at hk
  | row n=>simp [Yex] at hk
  | _=>exact hk
 refine ⟨⟨fun tag=>?_,fun a b k ha hb=>h.apart a b k (hB a k ha) (hB b k hb),fun tag k hk=>by rw [h3];exact h.lt tag k (hB tag k hk)⟩,fun tag k hk=>.inl (hB tag k hk),fun q hq hn=>h2 q (fun e=>hn .mp (by rw [e];rfl)),h4⟩;have hk:tag≠.mp→s.comp w' tag:=fun ht=>Ykg s tag (h.comp tag) (fun k hk=>h2 k (fun e=>ht (h.apart tag .mp k hk (by rw [e];rfl))))
 cases tag using Tag.elim with
 | mp=>exact h1
 | page n=>exact fun p hp=>by cases hp
 | row n=>exact fun p hp=>by cases hp
 | _=>exact hk (by simp)
theorem Y0q (h:Yan w s) (h1:Yap w' 3 s.mc.b 0 (.map [])) (h2:∀ q,q≠s.mc.b→w'.heap[q]? = w.heap[q]?) (h3:w'.heap.size=w.heap.size) (h4:Below 0 w w'):Ybg w w' s (Yn9 s):=by
 have hB:∀ tag k,(Yn9 s).blk tag=some k→s.blk tag=some k:=fun tag k hk=>by
  cases tag using Tag.elim with
  | _=>exact hk
 refine ⟨⟨fun tag=>?_,fun a b k ha hb=>h.apart a b k (hB a k ha) (hB b k hb),fun tag k hk=>by rw [h3];exact h.lt tag k (hB tag k hk)⟩,fun tag k hk=>.inl (hB tag k hk),fun q hq hn=>h2 q (fun e=>hn .mc (by rw [e];rfl)),h4⟩;have hk:tag≠.mc→s.comp w' tag:=fun ht=>Ykg s tag (h.comp tag) (fun k hk=>h2 k (fun e=>ht (h.apart tag .mc k hk (by rw [e];rfl))))
 cases tag using Tag.elim with
 | mc=>exact h1
 | _=>exact hk (by simp)
def Yjd (s:Sv):Sv:=Yn9 (Yex (synced s))
theorem Y0r (s:Sv) (dsz:s.D.size=27779) (ok:Ydn s.ws) (a:Nat) (ha:a<434):Yay (synced s).D (synced s).ws a=Yay s.D s.ws a:=by
 obtain ⟨h1,_,_⟩:=Yls s.D s.ws dsz ok;rw [←h1 a ha];show (((Ybp s.D s.ws).setIfInBounds 27776 (.slice none 0 0)).extract (a*64) (a*64+64)).toList=_;congr 1;apply Array.ext_getElem?;intro i;simp only [Array.getElem?_extract,Array.size_setIfInBounds];split
 ·exact Array.getElem?_setIfInBounds_ne (by omega)
 ·rfl
theorem Fl.good (F:Fl s0 s done) (g:Yar s0) (hall:∀ n,n<8→s0.chg n=true→n∈done) (hct:s0.count+done.length≤100+s0.len+1000*s0.acts):Yar (Yjd s):=by
 obtain ⟨h1,h2,h3⟩:=Yls s.D s.ws F.dsz F.ok;have hrd:∀ a,a<434→Yay (Yjd s).D (Yjd s).ws a=Yay s.D s.ws a:=fun a ha=>Y0r s F.dsz F.ok a ha
 have e1:s.len=s0.len:=by obtain ⟨c,D,ws,v,cp,rfl⟩:=F.same;rfl
 have e2:s.start=s0.start:=by obtain ⟨c,D,ws,v,cp,rfl⟩:=F.same;rfl
 have e3:s.cont=s0.cont:=by obtain ⟨c,D,ws,v,cp,rfl⟩:=F.same;rfl
 have e4:s.acts=s0.acts:=by obtain ⟨c,D,ws,v,cp,rfl⟩:=F.same;rfl
 have e5:s.mo=s0.mo:=by obtain ⟨c,D,ws,v,cp,rfl⟩:=F.same;rfl
 have e6:s.tx=s0.tx:=by obtain ⟨c,D,ws,v,cp,rfl⟩:=F.same;rfl
 have e7:s.log=s0.log:=by obtain ⟨c,D,ws,v,cp,rfl⟩:=F.same;rfl
 have e8:=F.ct;have ec:(0:Int)≤s0.count:=g.ct.1;refine { dsz:=?_,dv:=?_,fuse:=?_,ok:=fun p hp=>(List.not_mem_nil hp).elim,wn:=Nat.zero_le _,ln:=by show s.len≤391;rw [e1];exact g.ln,db:=fun i u hi hu=>?_,wb:=fun p hp=>(List.not_mem_nil hp).elim,have':=fun n p _ hp=>(by cases hp),lack:=fun n _ _ zd=>rfl,room:=by show 0+Yfl (fun _=>none)≤8;decide,load:=fun n hn=>?_,chk:=fun kl hk=>?_,logd:=?_,wl:=⟨s.len,Nat.le_refl _,?_⟩,rise:=fun n hn=>by show Ybi (s.cont n)∧(s.cont n).length≤4∧∀ p∈s.cont n,p.1.size≤8∧p.2.size≤12;rw [e3];exact g.rise n hn,st:=by show 0≤s.start∧s.start<4294967295;rw [e2];exact g.st,ct:=by show 0≤s.count∧s.count≤100+s.len+1000*s.acts;rw [e1,e4];omega,ac:=by show s.acts≤120;rw [e4];exact g.ac,mon:=by show s.mo.n≤s.acts;rw [e5,e4];exact g.mon,mcn:=Nat.zero_le _,isOpen:=by show ∀ t x,s.tx t=some x→Yf5 s.mo.M t x.tb;rw [e5,e6];exact g.isOpen,notOpen:=by show ∀ t,s.tx t=none→Yhf s.mo.M t;rw [e5,e6];exact g.notOpen }
 ·show ((Ybp s.D s.ws).setIfInBounds 27776 (.slice none 0 0)).size=27779
  rw [Array.size_setIfInBounds,Yh0];exact F.dsz
 ·show ((Ybp s.D s.ws).setIfInBounds 27776 (.slice none 0 0))[27776]? = some (.slice none 0 0)
  exact Array.getElem?_setIfInBounds_self_of_lt (by rw [Yh0,F.dsz];omega)
 ·show ((Ybp s.D s.ws).setIfInBounds 27776 (.slice none 0 0))[27777]? = some (.int .i64 0)
  rw [Array.getElem?_setIfInBounds_ne (by omega),h2 _ (by omega)];exact F.fuse
 ·have hu':((Ybp s.D s.ws).setIfInBounds 27776 (.slice none 0 0))[i]? = some u:=hu
  rw [Array.getElem?_setIfInBounds_ne (by omega)] at hu';exact h3 F.db F.wb i u hi hu'
 ·obtain ⟨⟨a1,a2,a3,a4⟩,b1,b2⟩:=F.on n hn
  refine ⟨⟨⟨?_,?_⟩,⟨?_,?_⟩,a3,a4⟩,fun p hp=>(by cases hp),fun _=>?_,fun h=>(by cases h),?_⟩
  ·exact (hrd _ (by omega)).trans a1.1
  ·exact (hrd _ (by omega)).trans a1.2
  ·exact (hrd _ (by omega)).trans a2.1
  ·exact (hrd _ (by omega)).trans a2.2
  ·show s.cont n=(Ya3.of (s.cp n).1 (s.cp n).2 2).rec'
   rw [e3];by_cases hd:n∈done
   ·exact F.new n hn hd
   ·rw [F.old n hd]
    refine (g.load n hn).cont ?_
    cases hc:s0.chg n with
    | false=>rfl
    | true=>exact absurd (hall n hn hc) hd
  ·show Yeb s.start s.count (s.cp n).1∧Yeb s.start s.count (s.cp n).2
   rw [e2];exact ⟨b1,b2⟩
 ·have hk':Maps.has (.map []) kl=true:=hk
  simp [Maps.has_eq] at hk'
 ·have hl:=F.logd.len
  have hln:=g.ln;show Yi4 (synced s).D (synced s).ws s.start s.len s.log;rw [e2,e1,e7];refine ⟨F.logd.len,fun i hi=>?_,fun i hi hi4=>?_⟩
  ·exact (F.logd.at' i hi).same (hrd (34+i) (by have hi':i<s0.log.length:=hi;omega))
  ·obtain ⟨a,c,e,k1,k2⟩:=F.logd.rest i hi hi4
   exact ⟨a,c,e,k1.same (hrd (34+i) (by omega)),k2⟩
 ·show []=Yfm s.start s.len (s.log.drop s.len)
  rw [e7,e1,List.drop_of_length_le (Nat.le_of_eq g.logd.len)];rfl
theorem Yst:∀ (ks:List Int) (lo:Int),0≤lo→lo≤8→ks.Pairwise (· < ·)→(∀ k∈ks,lo≤k∧k<8)→(ks.length:Int)≤8 - lo
 | [],lo,_,_,_,_=>by simp;omega
 | k :: r,lo,h0,h8,hp,hk=>by
  obtain ⟨h1,h2⟩:=hk k (by simp);rw [List.pairwise_cons] at hp;have:=Yst r (k+1) (by omega) (by omega) hp.2 (fun x hx=>⟨by have:=hp.1 x hx;omega,(hk x (by simp [hx])).2⟩);simp only [List.length_cons];omega
structure Ygc (s:Sv) (ks:List Int):Prop where
 rise:ks.Pairwise (· < ·)
 rng:∀ k∈ks,0≤k∧k<8
 all:∀ n,n<8→s.chg n=true→n∈ks.map Int.toNat
 pg:∀ k∈ks,(s.pgs k.toNat).isSome=true
 len:ks.length≤8
theorem Ygc.of (g:Yar s) {ks:List Int} (h:Ylx s.mc.M ks):Ygc s ks:=by
 have hr:∀ k∈ks,(0≤k∧k<8)∧s.chg k.toNat=true:=fun k hk=>by
  have h1:=(h.mem k).1 hk;obtain ⟨n,hn,e⟩:=g.chk _ h1;have e':k=(n:Int):=by simpa [Yeo] using e
  subst e';refine ⟨⟨by omega,by omega⟩,?_⟩;show Maps.has s.mc.M (Yeo ((n:Int)).toNat)=true;rw [Int.toNat_natCast];exact h1
 refine ⟨h.rise,fun k hk=>(hr k hk).1,fun n hn hc=>?_,fun k hk=>(g.load k.toNat (by have:=(hr k hk).1;omega)).have' (hr k hk).2,?_⟩
 ·rw [List.mem_map]
  exact ⟨(n:Int),(h.mem n).2 hc,Int.toNat_natCast n⟩
 ·have:=Yst ks 0 (by omega) (by omega) h.rise (fun k hk=>(hr k hk).1)
  omega
theorem Ygc.fresh (h:Ygc s ks) (k:Nat) (hk:k<ks.length):ks[k].toNat∉(ks.take k).map Int.toNat:=fun hm=>by
 rw [List.mem_map] at hm;obtain ⟨y,hy,e⟩:=hm;rw [List.mem_take_iff_getElem] at hy;obtain ⟨j,hj,rfl⟩:=hy;have hj':j<k:=by omega
 have h1:=(List.pairwise_iff_getElem.1 h.rise) j k (by omega) hk hj';have h2:=h.rng ks[j] (List.getElem_mem _);have h3:=h.rng ks[k] (List.getElem_mem _);omega
def FlI (w1:World) (s:Sv) (ks:List Int) (k:Nat) (W:World):Prop:=∃ s',Fl s s' ((ks.take k).map Int.toNat)∧Ybg w1 W s s'
theorem FlI.row {w0 w1 W:World} {k:Nat} (h:FlI w1 s ks k W) (hl:Yan w0 s) {v:Value} (hrow:w1.ownsRow w0.heap.size 3 1 v ks.length (ks.map (Value.int .i64))):W.ownsRow w0.heap.size 3 1 v ks.length (ks.map (Value.int .i64)):=by
 obtain ⟨s',_,hm⟩:=h;refine Yda hrow (fun q hq=>hm.off q (hrow.lt q hq).2 (fun tag ht=>?_));have:=hl.lt tag q ht;have:=(hrow.lt q hq).1;omega
structure Ysu (s s':Sv):Prop where
 nums:s'.kb=s.kb∧s'.ty=s.ty∧s'.start=s.start∧s'.turn=s.turn∧s'.len=s.len∧s'.begun=s.begun∧s'.acts=s.acts
 maps:s'.mo=s.mo∧s'.made=s.made
 parts:s'.cont=s.cont∧s'.tx=s.tx∧s'.mt=s.mt∧s'.log=s.log
 ws:s'.ws=[]
theorem Y0s (h:Yan w s) (g:Yar s) (hws:s.ws=[]) (hne:∀ n,n<8→∀ q∈s.cont n,1≤q.1.size) (hct:s.count+8≤100+s.len+1000*s.acts):
 Calls prog 81 #[.pointer (some ⟨s.kb,2,none⟩)] w fun e w'=>e=.returned (.tuple #[])∧∃ s',Ysu s s'∧Yab w w' s s':=by
 have hM:Yap w 3 s.mc.b s.mc.n s.mc.M:=h.comp .mc
 have hmn:=g.mcn
 have hln:=g.ln
 have c4:w.cell? ⟨s.kb,2+2,none⟩=some (.map (some s.mc.b)):=Yaa (h.comp .kind) (Yb1 s (j:=4) (by omega) rfl)
 have KK:Hid (Calls prog 115 #[.map (some s.mc.b)] w fun e w'=>e=.returned (.func (.func 163) #[] #[.pointer (some ⟨w.heap.size,0,none⟩)])∧w'=w.alloc (.cells #[.map (some s.mc.b)] 128)):=Yz7 _ w
 have KS:=Yh (Y0a hM (by omega))
 have HCH:Hid (∀ ks,Ylx s.mc.M ks→Ygc s ks):=fun ks hk=>Ygc.of g hk
 have HST:Hid (∀ W1 ks,Below w.heap.size w W1→FlI W1 s ks 0 W1):=fun W1 ks hb=>⟨s,Fl.start g hws,Ybg.refl (h.below hb)⟩
 have HL:=Yh h
 have KW:Hid (∀ W1 W ks k,Ygc s ks→(hk:k<ks.length)→FlI W1 s ks k W→Calls prog 116 #[.pointer (some ⟨s.kb,2,none⟩),.int .i64 ks[k]] W fun e w'=>e=.returned (.tuple #[])∧FlI W1 s ks (k+1) w'):=fun W1 W ks k hc hk ⟨s',hf,hm⟩=>by
  have hr:=hc.rng ks[k] (List.getElem_mem hk);have hp:=hc.pg ks[k] (List.getElem_mem hk);have hl8:=hc.len;obtain ⟨p,hp⟩:=Option.isSome_iff_exists.1 hp;have K:=Y0m hm.lies hf g ks[k].toNat (by omega) (hc.fresh k hk) (by simp;omega) p hp (hne _ (by omega));rw [Int.toNat_of_nonneg hr.1] at K;refine K.mono ?_;rintro e w' ⟨h1,s'',h2,h3⟩;refine ⟨h1,s'',?_,hm.trans h3⟩;rw [←List.take_append_getElem hk,List.map_append];exact h2
 have KY:Hid (∀ W1 W ks,Ygc s ks→FlI W1 s ks ks.length W→Calls prog 117 #[.pointer (some ⟨s.db,0,none⟩)] W fun e w'=>e=.returned (.tuple #[])∧∃ s',Fl s s' (ks.map Int.toNat)∧Ybg W1 w' s (synced s')):=fun W1 W ks hc ⟨s',hf,hm⟩=>by
  have e1:s'.db=s.db:=by obtain ⟨c,D,ws,v,cp,rfl⟩:=hf.same;rfl
  have hl8:=hc.len;rw [←e1];have hwn:=hf.wn;refine (Y0o hm.lies hf.dsz hf.dv hf.ok (by rw [hwn];simp;omega)).mono ?_;rintro e w' ⟨h1,h2⟩;rw [List.take_length] at hf;exact ⟨h1,s',hf,hm.trans h2⟩
 have HCELL:Hid (∀ W1 W ks k,FlI W1 s ks k W→W.cell? ⟨s.kb,2,none⟩=some (.pointer (some ⟨s.vb,0,none⟩))∧W.cell? ⟨s.vb,0,none⟩=some (.pointer (some ⟨s.db,0,none⟩))):=fun W1 W ks k ⟨s',hf,hm⟩=>by
  obtain ⟨c,D,ws,v,cp,rfl⟩:=hf.same;exact ⟨Yaa (hm.lies.comp .kind) (Yb1 _ (j:=2) (by omega) rfl),Yaa (hm.lies.comp .vol) rfl⟩
 have HP1:Hid (∀ W1 W (ks:List Int),(∃ s',Fl s s' (ks.map Int.toNat)∧Ybg W1 W s (synced s'))→W.cell? ⟨s.kb,2+1,none⟩=some (.map (some s.mp.b))∧∃ W',(Builtin.clear_ #[127] 0 #[.map (some s.mp.b)]).run prog W=.ok (.tuple #[]) W'∧∃ s',Fl s s' (ks.map Int.toNat)∧Ybg W1 W' s (Yex (synced s'))):=fun W1 W ks ⟨s',hf,hm⟩=>by
  have e1:(synced s').kb=s.kb:=by obtain ⟨c,D,ws,v,cp,rfl⟩:=hf.same;rfl
  have e2:(synced s').mp=s.mp:=by obtain ⟨c,D,ws,v,cp,rfl⟩:=hf.same;rfl
  have hm1:Yap W 3 (synced s').mp.b (synced s').mp.n (synced s').mp.M:=hm.lies.comp .mp;obtain ⟨W',k1,k2,k3,k4,k5⟩:=Ysr hm1 127 _ underlying127 0;have k6:=hm.trans (Y0p hm.lies k2 k3 k4 k5);rw [e2] at k1;refine ⟨?_,W',k1,s',hf,k6⟩;have:=Yaa (hm.lies.comp .kind) (Yb1 (synced s') (j:=3) (by omega) rfl);rw [e1,e2] at this;exact this
 have HP2:Hid (∀ W1 W (ks:List Int),(∃ s',Fl s s' (ks.map Int.toNat)∧Ybg W1 W s (Yex (synced s')))→W.cell? ⟨s.kb,2+2,none⟩=some (.map (some s.mc.b))∧∃ W',(Builtin.clear_ #[128] 0 #[.map (some s.mc.b)]).run prog W=.ok (.tuple #[]) W'∧∃ s',Fl s s' (ks.map Int.toNat)∧Ybg W1 W' s (Yjd s')):=fun W1 W ks ⟨s',hf,hm⟩=>by
  have e1:(Yex (synced s')).kb=s.kb:=by obtain ⟨c,D,ws,v,cp,rfl⟩:=hf.same;rfl
  have e2:(Yex (synced s')).mc=s.mc:=by obtain ⟨c,D,ws,v,cp,rfl⟩:=hf.same;rfl
  have hm1:Yap W 3 (Yex (synced s')).mc.b (Yex (synced s')).mc.n (Yex (synced s')).mc.M:=hm.lies.comp .mc;obtain ⟨W',k1,k2,k3,k4,k5⟩:=Ysr hm1 128 _ underlying128 0;have k6:=hm.trans (Y0q hm.lies k2 k3 k4 k5);rw [e2] at k1;refine ⟨?_,W',k1,s',hf,k6⟩;have:=Yaa (hm.lies.comp .kind) (Yb1 (Yex (synced s')) (j:=4) (by omega) rfl);rw [e1,e2] at this;exact this
 have HFIN:Hid (∀ W1 W ks,Below w.heap.size w W1→Ygc s ks→(∃ s',Fl s s' (ks.map Int.toNat)∧Ybg W1 W s (Yjd s'))→∃ s',Ysu s s'∧Yab w W s s'):=fun W1 W ks hb hc ⟨s',hf,hm⟩=>by
  have hl8:=hc.len;have hgd:=hf.good g hc.all (by simp;omega);refine ⟨Yjd s',?_,((Ybg.of_below h hb).trans hm).goes hgd⟩;obtain ⟨c,D,ws,v,cp,rfl⟩:=hf.same;exact ⟨⟨rfl,rfl,rfl,rfl,rfl,rfl,rfl⟩,⟨rfl,rfl⟩,⟨rfl,rfl,rfl,rfl⟩,rfl⟩
 generalize hkb:s.kb=kb at c4 KW HCELL HP1 HP2
 generalize s.db=db at KY HCELL
 generalize s.vb=vb at HCELL
 generalize s.mc.b=cb at c4 KK KS HP2
 generalize s.mp.b=pb at HP1
 clear h g hM hne hct
 go_enter func81,ntmps81
 go_wp2_with (first
  | (go_at_call 115;go_must (
   refine KK.out.mono ?_;rintro e w0 ⟨rfl,rfl⟩))
  | (go_at_call 114;go_must (
   refine KS.out.mono ?_;rintro e w1 ⟨v,ks,rfl,hks,hrow,hb1⟩;obtain ⟨p,cap,rfl,hmax⟩:=Ya6 hrow;have HKS:Hid (Ygc s ks):=HCH.out ks hks;have HROW:=Yh hrow;have HB1:=Yh hb1;have hkl:ks.length≤8:=HKS.out.len;clear hks hrow hb1 hmax)))
 go_loopw [11] (fun i wr=>∃ k:Nat,k≤ks.length∧i=.int .i64 k∧FlI w1 s ks k wr) (fun i _=>ks.length - (intOf i).toNat)
 case atStart=>exact ⟨0,by omega,rfl,HST.out w1 ks HB1.out⟩
 case round=>
  obtain ⟨k,hk,rfl,hrd⟩:=hrel;have HRD:=Yh hrd;clear hrd;by_cases hlt:k<ks.length
  ·have hlt':(k:Int)<(ks.length:Int):=by omega
   obtain ⟨gb,cap',he⟩:=Ybn HROW.out (by omega);simp only [Value.slice.injEq] at he;obtain ⟨rfl,-,rfl⟩:=he;have c0:wr.cell? ⟨gb,k,none⟩=some (.int .i64 ks[k]):=by
    exact Yal (HRD.out.row HL.out HROW.out) (by simp [hlt])
   have KW1:Hid (∀ W,FlI w1 s ks k W→Calls prog 116 #[.pointer (some ⟨kb,2,none⟩),.int .i64 ks[k]] W fun e w'=>e=.returned (.tuple #[])∧FlI w1 s ks (k+1) w'):=fun W hW=>KW.out w1 W ks k HKS.out hlt hW
   generalize ks[k]=kk at c0 KW1;go_wp2_with (first
    | (go_at_call 116;go_must (
     refine (KW1.out _ HRD.out).mono ?_;rintro e w2 ⟨rfl,hr2⟩;have HR2:=Yh hr2;clear hr2)))
   exact ⟨⟨k+1,by omega,by simp,HR2.out⟩,by simp [intOf];omega⟩
  ·obtain rfl:k=ks.length:=by omega
   obtain ⟨m2,m0⟩:=HCELL.out w1 wr ks _ HRD.out;go_upto_region 6 with (first
    | (go_at_call 117;go_must (
     refine (KY.out w1 _ ks HKS.out HRD.out).mono ?_;rintro e w3 ⟨rfl,hr3⟩;have HR3:=Yh hr3;clear hr3)))
   obtain ⟨m3,W4,hc4,hr4⟩:=HP1.out w1 w3 ks HR3.out;have HR4:=Yh hr4;obtain ⟨m4,W5,hc5,hr5⟩:=HP2.out w1 W4 ks hr4;have HR5:=Yh hr5;clear hr4 hr5;go_wp2;go_end0;exact ⟨rfl,HFIN.out w1 W5 ks HB1.out HKS.out HR5.out⟩
end Go.Proofs.YtihbngfbcnojcaaGreat
namespace Go.Proofs.YtihbngfbcnojcaaGreat
open Go.RowKit Go.Maps Go.Sort Go.Shelf Tryz
def Yoa:Go.Shelf.Ren:=⟨fun | 7=>110 | 10=>156 | n=>n,fun | 23=>138 | 26=>9 | 3=>38 | 28=>176 | 0=>0 | 27=>175 | 33=>248 | 4=>4 | n=>n,fun | n=>n⟩
theorem Yob:Go.Proofs.SlLaysZ.n7 prog Yoa where
 mixed:=by kernel_rfl
 f7:=⟨Tryz.f110.name,by kernel_rfl,func110.trans (congrArg some (by kernel_rfl))⟩
 f10:=⟨Tryz.f156.name,by kernel_rfl,func156.trans (congrArg some (by kernel_rfl))⟩
 t0:=underlying0
 a0:=Tryz.isAgg0
 z0:=Tryz.sizeOf0
 v0:=Tryz.zeroValue0
 t4:=underlying4
 a4:=Tryz.isAgg4
 z4:=Tryz.sizeOf4
 v4:=Tryz.zeroValue4
 t23:=underlying138
 a23:=Tryz.isAgg138
 z23:=Tryz.sizeOf138
 v23:=Tryz.zeroValue138
 t26:=underlying9
 a26:=Tryz.isAgg9
 z26:=Tryz.sizeOf9
 v26:=Tryz.zeroValue9
 t27:=underlying175
 a27:=Tryz.isAgg175
 z27:=Tryz.sizeOf175
 v27:=Tryz.zeroValue175
 t28:=underlying176
 a28:=Tryz.isAgg176
 z28:=Tryz.sizeOf176
 v28:=Tryz.zeroValue176
 t33:=underlying248
 a33:=Tryz.isAgg248
 z33:=Tryz.sizeOf248
 v33:=Tryz.zeroValue248
def Ysv:Go.Shelf.Ren:=⟨fun | 6=>109 | 8=>154 | 9=>155 | 11=>203 | 13=>205 | 12=>204 | 23=>232 | 24=>233 | 14=>223 | 15=>224 | 16=>225 | 17=>226 | 18=>227 | 19=>228 | 20=>229 | 21=>230 | 22=>231 | 25=>245 | 26=>246 | 27=>247 | 28=>248 | 29=>249 | 30=>234 | 31=>255 | n=>n,fun | 26=>9 | 28=>176 | 24=>173 | 0=>0 | 3=>3 | 37=>213 | 48=>124 | 50=>53 | 4=>4 | 40=>316 | 39=>315 | 45=>249 | 5=>5 | 9=>9 | 51=>330 | 55=>333 | 57=>338 | 58=>339 | 33=>248 | n=>n,fun | n=>n⟩
theorem Ysw:Go.Proofs.SlLaysZ.n6 prog Ysv where
 mixed:=by kernel_rfl
 f6:=⟨Tryz.f109.name,by kernel_rfl,func109.trans (congrArg some (by kernel_rfl))⟩
 f8:=⟨Tryz.f154.name,by kernel_rfl,func154.trans (congrArg some (by kernel_rfl))⟩
 f11:=⟨Tryz.f203.name,by kernel_rfl,func203.trans (congrArg some (by kernel_rfl))⟩
 t0:=underlying0
 a0:=Tryz.isAgg0
 z0:=Tryz.sizeOf0
 v0:=Tryz.zeroValue0
 t24:=underlying173
 a24:=Tryz.isAgg173
 z24:=Tryz.sizeOf173
 v24:=Tryz.zeroValue173
 t26:=underlying9
 a26:=Tryz.isAgg9
 z26:=Tryz.sizeOf9
 v26:=Tryz.zeroValue9
 t28:=underlying176
 a28:=Tryz.isAgg176
 z28:=Tryz.sizeOf176
 v28:=Tryz.zeroValue176
 i26:=by kernel_rfl
def Y0t:Go.Shelf.Ren:=⟨fun | 6=>155 | 8=>205 | 9=>204 | 19=>232 | 20=>233 | 21=>223 | 22=>224 | 23=>225 | 24=>226 | 25=>227 | 26=>228 | 27=>229 | 28=>230 | 29=>231 | 36=>245 | 31=>246 | 32=>247 | 37=>248 | 38=>249 | 39=>234 | 41=>255 | n=>n,fun | 27=>173 | 29=>9 | 3=>3 | 32=>213 | 26=>173 | 0=>0 | 44=>124 | 46=>53 | 4=>4 | 36=>316 | 35=>315 | 41=>249 | 5=>5 | 9=>9 | 53=>330 | 57=>333 | 63=>338 | 64=>339 | n=>n,fun | n=>n⟩
theorem Ysx:Go.Proofs.SlLaysM.n6 prog Y0t where
 mixed:=by kernel_rfl
 f6:=⟨Tryz.f155.name,by kernel_rfl,func155.trans (congrArg some (by kernel_rfl))⟩
 f8:=func205.trans (congrArg some (by kernel_rfl))
 f9:=⟨Tryz.f204.name,by kernel_rfl,func204.trans (congrArg some (by kernel_rfl))⟩
 f19:=func232.trans (congrArg some (by kernel_rfl))
 f20:=func233.trans (congrArg some (by kernel_rfl))
 f21:=⟨Tryz.f223.name,by kernel_rfl,func223.trans (congrArg some (by kernel_rfl))⟩
 f22:=⟨Tryz.f224.name,by kernel_rfl,func224.trans (congrArg some (by kernel_rfl))⟩
 f23:=⟨Tryz.f225.name,by kernel_rfl,func225.trans (congrArg some (by kernel_rfl))⟩
 f24:=⟨Tryz.f226.name,by kernel_rfl,func226.trans (congrArg some (by kernel_rfl))⟩
 f25:=⟨Tryz.f227.name,by kernel_rfl,func227.trans (congrArg some (by kernel_rfl))⟩
 f26:=⟨Tryz.f228.name,by kernel_rfl,func228.trans (congrArg some (by kernel_rfl))⟩
 f27:=⟨Tryz.f229.name,by kernel_rfl,func229.trans (congrArg some (by kernel_rfl))⟩
 f28:=⟨Tryz.f230.name,by kernel_rfl,func230.trans (congrArg some (by kernel_rfl))⟩
 f29:=⟨Tryz.f231.name,by kernel_rfl,func231.trans (congrArg some (by kernel_rfl))⟩
 f31:=func246.trans (congrArg some (by kernel_rfl))
 f32:=func247.trans (congrArg some (by kernel_rfl))
 f36:=⟨Tryz.f245.name,by kernel_rfl,func245.trans (congrArg some (by kernel_rfl))⟩
 f37:=⟨Tryz.f248.name,by kernel_rfl,func248.trans (congrArg some (by kernel_rfl))⟩
 f38:=⟨Tryz.f249.name,by kernel_rfl,func249.trans (congrArg some (by kernel_rfl))⟩
 f39:=⟨Tryz.f234.name,by kernel_rfl,func234.trans (congrArg some (by kernel_rfl))⟩
 f41:=⟨Tryz.f255.name,by kernel_rfl,func255.trans (congrArg some (by kernel_rfl))⟩
 t0:=underlying0
 a0:=Tryz.isAgg0
 z0:=Tryz.sizeOf0
 v0:=Tryz.zeroValue0
 t3:=underlying3
 a3:=Tryz.isAgg3
 z3:=Tryz.sizeOf3
 v3:=Tryz.zeroValue3
 t4:=underlying4
 a4:=Tryz.isAgg4
 z4:=Tryz.sizeOf4
 v4:=Tryz.zeroValue4
 t5:=underlying5
 a5:=Tryz.isAgg5
 z5:=Tryz.sizeOf5
 v5:=Tryz.zeroValue5
 t9:=underlying9
 a9:=Tryz.isAgg9
 z9:=Tryz.sizeOf9
 v9:=Tryz.zeroValue9
 t26:=underlying173
 a26:=Tryz.isAgg173
 z26:=Tryz.sizeOf173
 v26:=Tryz.zeroValue173
 t27:=underlying173
 a27:=Tryz.isAgg173
 z27:=Tryz.sizeOf173
 v27:=Tryz.zeroValue173
 t29:=underlying9
 a29:=Tryz.isAgg9
 z29:=Tryz.sizeOf9
 v29:=Tryz.zeroValue9
 t32:=underlying213
 a32:=Tryz.isAgg213
 z32:=Tryz.sizeOf213
 v32:=Tryz.zeroValue213
 t35:=underlying315
 a35:=Tryz.isAgg315
 z35:=Tryz.sizeOf315
 v35:=Tryz.zeroValue315
 t36:=underlying316
 a36:=Tryz.isAgg316
 z36:=Tryz.sizeOf316
 v36:=Tryz.zeroValue316
 t41:=underlying249
 a41:=Tryz.isAgg249
 z41:=Tryz.sizeOf249
 v41:=Tryz.zeroValue249
 t44:=underlying124
 a44:=Tryz.isAgg124
 z44:=Tryz.sizeOf124
 v44:=Tryz.zeroValue124
 t46:=underlying53
 a46:=Tryz.isAgg53
 z46:=Tryz.sizeOf53
 v46:=Tryz.zeroValue53
 t53:=underlying330
 a53:=Tryz.isAgg330
 z53:=Tryz.sizeOf330
 v53:=Tryz.zeroValue330
 t57:=underlying333
 a57:=Tryz.isAgg333
 z57:=Tryz.sizeOf333
 v57:=Tryz.zeroValue333
 t63:=underlying338
 a63:=Tryz.isAgg338
 z63:=Tryz.sizeOf338
 v63:=Tryz.zeroValue338
 t64:=underlying339
 a64:=Tryz.isAgg339
 z64:=Tryz.sizeOf339
 v64:=Tryz.zeroValue339
theorem Ysy (m:Nat):AnyZ.SortsIn prog Ysv Fence.wide m:=
 ⟨fun blk off cap ss W hH hblk hsz=>callsIn_wide.2 (AnyM.slices_Sort_string Ysx blk off cap ss W hH hblk hsz),
  fun p cap W=>callsIn_wide.2 (AnyM.slices_Sort_string_none Ysx p cap W)⟩
theorem Yoc (mb:Option Nat) (W:World):Calls prog 110 #[.map mb] W fun e w'=>e=.returned (.func (.func 156) #[] #[.pointer (some ⟨W.heap.size,0,none⟩)])∧w'=W.alloc (.cells #[.map mb] 138):=
 (callsIn_wide (n:=5)).1 (AnyZ.keys_in Yob Fence.wide 5 trivial rfl mb W)
theorem Y0u {H:Type} (b nn:Nat) (D0:DataW H) (R:Value→Option (DataW H×List MemPlace)) (w:World) (hown:w.ownsMap prog 9 R b nn D0) (hmax:Maps.size D0≤maxLen) (hbytes:Maps.size D0*16≤140737488355328):
 Calls prog 109 #[.func (.func 156) #[] #[.pointer (some ⟨w.heap.size,0,none⟩)]] (w.alloc (.cells #[.map (some b)] 138)) fun e w'=>∃ (v:Value) (ss:List (List UInt8)),e=.returned v∧ss.Perm (strKeys D0) ∧
  w'.ownsRow (w.alloc (.cells #[.map (some b)] 138)).heap.size 9 1 v ss.length ((ss.mergeSort (fun x y=>decide (x≤y))).map encStr)∧(v=.slice none 0 0↔ss=[])∧Below (w.alloc (.cells #[.map (some b)] 138)).heap.size (w.alloc (.cells #[.map (some b)] 138)) w':=by
 have hbl:=hown.lt
 have hseq:SeqGives Fence.wide 2 prog 156 #[.pointer (some ⟨w.heap.size,0,none⟩)] encStr (fun ss=>ss.Perm (strKeys D0)) (Maps.size D0) (w.alloc (.cells #[.map (some b)] 138)):=
  AnyZ.keys_gives (ρ:=Yoa) { Yob with } Fence.wide _ trivial rfl (by omega) w.heap.size b nn D0 _ (by simp) (by simp) (by
   obtain ⟨es,clock,hb,Ft,hs,hD⟩:=hown;exact ⟨es,clock,(Below.heap_alloc _ _ b hbl).trans hb,Ft,hs,hD⟩)
 exact (callsIn_wide (n:=5)).1 (AnyZ.sorted_in Ysw Fence.wide 5 trivial trivial trivial trivial rfl (by omega) (Ysy _) (enters_of func155 (by kernel_rfl) rfl) 156 #[.pointer (some ⟨w.heap.size,0,none⟩)] trivial (enters_of func156 (by kernel_rfl) rfl) _ _ hmax hbytes _ hseq)
theorem Y0v (w:World):
 Calls prog 109 #[.func (.func 156) #[] #[.pointer (some ⟨w.heap.size,0,none⟩)]] (w.alloc (.cells #[.map none] 138)) fun e w'=>e=.returned (.slice none 0 0)∧Below (w.alloc (.cells #[.map none] 138)).heap.size (w.alloc (.cells #[.map none] 138)) w':=by
 have hseq:SeqGives Fence.wide 2 prog 156 #[.pointer (some ⟨w.heap.size,0,none⟩)] encStr (fun ss:List (List UInt8)=>ss=[]) 0 (w.alloc (.cells #[.map none] 138)):=
  AnyZ.keys_gives_nil (ρ:=Yoa) { Yob with } Fence.wide _ trivial rfl w.heap.size _ (by simp) (by simp)
 refine ((callsIn_wide (n:=5)).1 (AnyZ.sorted_in Ysw Fence.wide 5 trivial trivial trivial trivial rfl (by omega) (Ysy _) (enters_of func155 (by kernel_rfl) rfl) 156 #[.pointer (some ⟨w.heap.size,0,none⟩)] trivial (enters_of func156 (by kernel_rfl) rfl) _ 0 (Nat.zero_le _) (by omega) _ hseq)).mono ?_
 rintro e w' ⟨v,ss,rfl,h1,h2,h3,h4⟩
 exact ⟨by rw [h3.2 h1],h4⟩
end Go.Proofs.YtihbngfbcnojcaaGreat
namespace Go.Proofs.YtihbngfbcnojcaaGreat
open Go.RowKit Tryz
variable {M:DataW Value} {t:Int} {ks:List ByteArray} {es:List Yac} {b j n q:Nat} {s s':Sv} {x x':TxE} {W W1 w w1 w2:World} {m md:Ybh}
def Ygx (l:List UInt8):ByteArray:=⟨l.toArray⟩
theorem Y0w (k:ByteArray):Ygx k.data.toList=k:=by cases k;simp [Ygx]
theorem Y0x (l:List UInt8):(Ygx l).data.toList=l:=by simp [Ygx]
theorem Ysz (l:List UInt8):(Ygx l).toList=l:=by rw [ByteArray.toList_eq];simp [Ygx]
structure Yfq (M:DataW Value) (ks:List ByteArray):Prop where
 rise:ks.Pairwise blt
 mem:∀ k,k∈ks↔Maps.has M (lit k)=true
 len:ks.length=Maps.size M
theorem Y0y (hM:Yap w 9 b n M) {ss:List (List UInt8)} (hp:ss.Perm (Go.strKeys M)):
 ∃ ks:List ByteArray,Yfq M ks∧(ss.mergeSort (fun x y=>decide (x≤y))).map Go.Proofs.encStr=ks.map Value.string:=by
 obtain ⟨es,hD,hpw,_⟩:=World.ownsMap.entries hM (Maps.string_keyed underlying9)
 obtain ⟨es',hD',hko⟩:=World.ownsMap.keysOf hM
 obtain rfl:es=es':=by rw [hD] at hD';simpa using hD'
 subst hD
 have hstr:∀ p∈es,∃ x,p.1=.string x:=fun p hp=>by
  obtain ⟨v,hv⟩:=hko p hp;obtain ⟨x,_,hx,_⟩:=Maps.keyOf_str underlying9 hv;exact ⟨x,hx⟩
 have hnd:(Go.strKeys (.map es)).Nodup:=by
  show (es.map fun p=>Go.strOf p.1).Nodup;refine List.pairwise_map.2 (hpw.imp_of_mem fun {p q} hp' hq' hne e=>hne ?_);obtain ⟨a,ha⟩:=hstr p hp';obtain ⟨b,hb⟩:=hstr q hq';rw [ha,hb] at e ⊢;exact congrArg _ e
 have hmem:∀ x,x∈Go.strKeys (.map es)↔Maps.has (.map es) (.string x)=true:=fun x=>by
  rw [Maps.has_eq,List.any_eq_true];show x∈es.map (fun p=>Go.strOf p.1)↔_;rw [List.mem_map];constructor
  ·rintro ⟨p,hp',rfl⟩
   obtain ⟨a,ha⟩:=hstr p hp';exact ⟨p,hp',by rw [ha];simp [Lit.sameKey,Go.strOf]⟩
  ·rintro ⟨p,hp',hs⟩
   obtain ⟨a,ha⟩:=hstr p hp';rw [ha] at hs;exact ⟨p,hp',by rw [ha];simpa [Lit.sameKey,Go.strOf] using hs⟩
 have hlen:(Go.strKeys (.map es)).length=es.length:=by
  show (es.map fun p=>Go.strOf p.1).length=_;simp
 have hms:=(List.mergeSort_perm ss (fun x y=>decide (x≤y))).trans hp
 have hpws:(ss.mergeSort (fun x y=>decide (x≤y))).Pairwise (fun a b=>decide (a≤b)=true):=List.pairwise_mergeSort (fun a b c h1 h2=>by simp only [decide_eq_true_eq] at *;exact List.le_trans h1 h2) (fun a b=>by simp only [Bool.or_eq_true,decide_eq_true_eq];exact List.le_total a b) ss
 generalize ss.mergeSort (fun x y=>decide (x≤y))=st at hms hpws ⊢
 have hnd2:st.Nodup:=hms.nodup_iff.2 hnd
 refine ⟨st.map Ygx,⟨?_,fun k=>?_,?_⟩,?_⟩
 ·rw [List.pairwise_map]
  refine (hpws.and hnd2).imp (fun {a b} h=>?_);show (Ygx a).toList<(Ygx b).toList;rw [Ysz,Ysz];have h1:a≤b:=by simpa using h.1
  rcases Classical.em (a<b) with h2 | h2
  ·exact h2
  ·exact absurd (List.le_antisymm h1 (List.not_lt.1 h2)) h.2
 ·rw [List.mem_map]
  constructor
  ·rintro ⟨x,hx,rfl⟩
   have:=(hmem x).1 (hms.mem_iff.1 hx);simpa [lit,Y0x] using this
  ·intro h
   exact ⟨k.data.toList,hms.mem_iff.2 ((hmem _).2 h),Y0w k⟩
 ·rw [List.length_map,hms.length_eq,hlen];rfl
 ·rw [List.map_map];rfl
theorem Ys0 (hM:Yap w 9 b n M) (hn:n≤100000):
 Calls prog 109 #[.func (.func 156) #[] #[.pointer (some ⟨w.heap.size,0,none⟩)]] (w.alloc (.cells #[.map (some b)] 138)) fun e w'=>∃ v ks,e=.returned v∧Yfq M ks∧w'.ownsRow w.heap.size 9 1 v ks.length (ks.map Value.string)∧Below w.heap.size w w':=by
 have hsz:Maps.size M≤n:=World.ownsMap.size_le hM
 refine (Y0u b n M Yb0 w hM (by unfold maxLen;omega) (by omega)).mono ?_
 rintro e w' ⟨v,ss,rfl,h1,h2,_,h3⟩
 obtain ⟨ks,k1,k2⟩:=Y0y hM h1
 have hl:ks.length=ss.length:=by
  have:=congrArg List.length k2;simp at this;exact this.symm
 rw [k2,←hl] at h2
 exact ⟨v,ks,rfl,k1,Yfg h2 (by simp),((Below.refl _ w).alloc (Nat.le_refl _) _).trans (h3.mono (by simp))⟩
def Yat (M:DataW Value) (key:ByteArray):Bool×ByteArray:=(Yc4 M key).getD (false,ByteArray.empty)
theorem Ys1 (hM:Yap w 9 b n M) (hc:Ydz M) (key:ByteArray) (hks:key.size≤1000):
 (Instr.lookup 138 (.map (some b)) (.string key) false).run prog w=.ok (.agg #[.bool (Yat M key).1,.string (Yat M key).2]) w:=by
 obtain ⟨mv,hr,hv⟩:=hM.look (Maps.string_keyed underlying9) underlying138 (z:=.agg #[.bool false,.string ByteArray.empty]) (Tryz.zeroValue38 _) (Yfj key hks)
 rcases hc key with h1 | ⟨is,val,_,_,h1⟩
 ·rw [h1] at hv
  simp only [DataW.held.injEq] at hv;subst hv;have:Yat M key=(false,ByteArray.empty):=by unfold Yat Yc4;rw [h1];rfl
  rw [this];exact hr
 ·rw [h1] at hv
  simp only [DataW.held.injEq] at hv;subst hv;have:Yat M key=(is,val):=by unfold Yat Yc4;rw [h1];rfl
  rw [this];exact hr
def Ycz (M:DataW Value) (ks:List ByteArray):Yaf:=ks.filterMap fun k=>if (Yat M k).1 then some (k,(Yat M k).2) else none
theorem Y0z (M:DataW Value) (ks:List ByteArray) (k:ByteArray):Ycz M (ks ++ [k])=if (Yat M k).1 then Ycz M ks ++ [(k,(Yat M k).2)] else Ycz M ks:=by
 unfold Ycz;rw [List.filterMap_append]
 cases h:(Yat M k).1 <;> simp [h]
theorem Y00 (M:DataW Value) (ks:List ByteArray):(Ycz M ks).length≤ks.length:=List.length_filterMap_le _ _
theorem Ys2 {p:ByteArray×ByteArray} (h:p∈Ycz M ks):p.1∈ks∧Yat M p.1=(true,p.2):=by
 obtain ⟨k,hk,he⟩:=List.mem_filterMap.1 h;by_cases hc:(Yat M k).1=true
 ·rw [if_pos hc] at he
  simp only [Option.some.injEq] at he;subst he;exact ⟨hk,Prod.ext hc rfl⟩
 ·rw [if_neg hc] at he;cases he
theorem Yl1 {M:DataW Value}:∀ {ks:List ByteArray},ks.Pairwise blt→(Ycz M ks).Pairwise (fun a b=>blt a.1 b.1)
 | [],_=>List.Pairwise.nil
 | k :: r,h=>by
  obtain ⟨h1,h2⟩:=List.pairwise_cons.1 h;have ih:=Yl1 (M:=M) h2;unfold Ycz;rw [List.filterMap_cons];by_cases hc:(Yat M k).1=true
  ·rw [if_pos hc]
   exact List.pairwise_cons.2 ⟨fun p hp=>h1 _ (Ys2 (M:=M) hp).1,ih⟩
  ·rw [if_neg hc];exact ih
theorem Ys3 (h:Yfq M ks) (key:ByteArray):Yag (Ycz M ks) key=if (Yat M key).1 then (true,(Yat M key).2) else (false,ByteArray.empty):=by
 by_cases hc:(Yat M key).1=true
 ·rw [if_pos hc]
  have hk:key∈ks:=by
   refine (h.mem key).2 ?_
   cases hb:Maps.has M (lit key)
   ·have:Yat M key=(false,ByteArray.empty):=by unfold Yat Yc4;rw [Maps.atKey_of_not_has hb];rfl
    rw [this] at hc;cases hc
   ·rfl
  have hm:(key,(Yat M key).2)∈Ycz M ks:=List.mem_filterMap.2 ⟨key,hk,by rw [if_pos hc]⟩;obtain ⟨A,B,e⟩:=List.append_of_mem hm;have hr:=Yl1 (M:=M) h.rise;rw [e] at hr ⊢;have hA:∀ p∈A,p.1≠key:=fun p hp=>Yek ((List.pairwise_append.1 hr).2.2 p hp (key,(Yat M key).2) (by simp))
  rw [Ynr hA,Yag,if_pos rfl]
 ·rw [if_neg hc]
  exact Yns fun p hp e=>by
   have:=(Ys2 hp).2;rw [e] at this;rw [this] at hc;exact hc rfl
theorem Ys4 (hM:Yap w 9 b n M) (hc:Ydz M) (hn:n≤100000):
 Calls prog 78 #[.map (some b)] w fun e w'=>∃ v ks,e=.returned v∧Yfq M ks∧w'.ownsRow w.heap.size 43 2 v (Ycz M ks).length (Yad (Ycz M ks))∧Below w.heap.size w w':=by
 have KK:Hid (Calls prog 110 #[.map (some b)] w fun e w'=>e=.returned (.func (.func 156) #[] #[.pointer (some ⟨w.heap.size,0,none⟩)])∧w'=w.alloc (.cells #[.map (some b)] 138)):=Yoc _ w
 have KS:=Yh (Ys0 hM hn)
 have HM:Hid (Yap w 9 b n M∧Maps.size M≤100000):=⟨hM,Nat.le_trans (World.ownsMap.size_le hM) hn⟩
 have HC:=Yh hc
 clear hM hc
 go_enter func78,ntmps78
 go_wp2_with (first
  | (go_at_call 110;go_must (
   refine KK.out.mono ?_;rintro e w0 ⟨rfl,rfl⟩))
  | (go_at_call 109;go_must (
   refine KS.out.mono ?_;rintro e w1 ⟨v,ks,rfl,hks,hrow,hb1⟩;obtain ⟨p,cap,rfl,hmax⟩:=Ya6 hrow;have HKS:=Yh hks;have HROW:=Yh hrow;have HB1:=Yh hb1;have hkl:ks.length≤100000:=by rw [hks.len];exact HM.out.2
   clear hks hrow hb1 hmax)))
 have HMW:Hid (Yap w1 9 b n M):=HM.out.1.below HB1.out
 go_loopw [3,11] (fun u i wr=>∃ k:Nat,k≤ks.length∧i=.int .i64 k∧wr.ownsRow w1.heap.size 43 2 u (Ycz M (ks.take k)).length (Yad (Ycz M (ks.take k)))∧Below w1.heap.size w1 wr) (fun _ i _=>ks.length - (intOf i).toNat)
 case atStart=>exact ⟨0,by omega,rfl,World.ownsRow_nil _ _ _ _,Below.refl _ _⟩
 case round=>
  obtain ⟨k,hk,rfl,hout,hbr⟩:=hrel;have HBR:=Yh hbr;have hsz:=hbr.size;by_cases hlt:k<ks.length
  ·have hlt':(k:Int)<(ks.length:Int):=by omega
   have hownr:=Ybe HROW.out hbr (fun g hg=>(HROW.out.lt g hg).2);obtain ⟨g,cap',he⟩:=Ybn hownr (by omega);simp only [Value.slice.injEq] at he;obtain ⟨rfl,-,rfl⟩:=he;have c0:wr.cell? ⟨g,k,none⟩=some (.string ks[k]):=Yal hownr (by simp [hlt]);have hksz:ks[k].size≤8:=by
    have h1:=(HKS.out.mem ks[k]).1 (List.getElem_mem hlt);rcases HC.out ks[k] with h2 | ⟨_,_,h2,_⟩
    ·rw [Maps.has_false_of_atKey h2] at h1;cases h1
    ·exact h2
   have hlk:=Ys1 (HMW.out.below hbr) HC.out ks[k] (by omega);have hT:ks.take (k+1)=ks.take k ++ [ks[k]]:=by simp
   have HS:Hid (Ycz M (ks.take (k+1))=if (Yat M ks[k]).1 then Ycz M (ks.take k) ++ [(ks[k],(Yat M ks[k]).2)] else Ycz M (ks.take k)):=by show _=_;rw [hT];exact Y0z _ _ _
   have hL:(Ycz M (ks.take k)).length≤100000:=Nat.le_trans (Y00 _ _) (by simp;omega);clear hbr hownr hT;generalize Ycz M (ks.take k)=out at hout hL HS;generalize Yat M ks[k]=c at hlk HS;generalize ks[k]=kk at c0 hlk HS hksz;obtain ⟨ci,cv⟩:=c;simp only at hlk HS;have HOUT:=Yh hout;clear hout;have HB2:Hid (Below w1.heap.size w1 (wr.alloc (.cells #[.bool ci,.string cv] 38))):=HBR.out.alloc hsz _
   cases ci with
   | false=>
    simp only [Bool.false_eq_true,if_false] at HS;go_wp2;refine ⟨⟨k+1,by omega,by simp,?_,HB2.out⟩,by simp [intOf];omega⟩;rw [HS.out];exact HOUT.out.alloc _
   | true=>
    simp only [if_true] at HS;go_wp2_with (first
     | (at_builtin;go_must (
      refine Yg7 rfl _ _ rfl w1.heap.size _ out rfl ((HOUT.out.alloc _).alloc _) (wr.heap.size+1) kk cv rfl (by simpa using heap_alloc_new (wr.alloc (.cells #[.bool true,.string cv] 38)) _) (by omega) (by simp;omega) ?_;intro v5 w5 hown5 hb5;have HO5:=Yh hown5;have HB5:Hid (Below w1.heap.size w1 w5):=HB2.out.trans (((Below.refl _ _).alloc (by simp;omega) _).trans hb5);clear hown5 hb5)))
    refine ⟨⟨k+1,by omega,by simp,?_,HB5.out⟩,by simp [intOf];omega⟩;rw [HS.out];exact HO5.out
  ·have hlt':¬(k:Int)<(ks.length:Int):=by omega
   obtain rfl:k=ks.length:=by omega
   rw [List.take_length] at hout;have HOUT:=Yh hout;clear hout hbr;go_wp2;go_ret;exact ⟨_,rfl,ks,HKS.out,Yfg HOUT.out HB1.out.size,HB1.out.trans (HBR.out.mono HB1.out.size)⟩
def Ygd (s:Sv):Prop:=∀ n,n<8→∀ p∈s.cont n,Yae p.1=n
theorem Yod:∀ {l:Yaf} {key v:ByteArray},(∀ p∈l,p.1=key→p.2=v)→(∃ p∈l,p.1=key)→Yag l key=(true,v)
 | [],_,_,_,h=>by obtain ⟨p,hp,_⟩:=h;cases hp
 | p :: r,key,v,h1,h2=>by
  rw [Yag];by_cases hp:p.1=key
  ·rw [if_pos hp,h1 p (by simp) hp]
  ·rw [if_neg hp]
   refine Yod (fun q hq=>h1 q (by simp [hq])) ?_;obtain ⟨q,hq,he⟩:=h2;rcases List.mem_cons.1 hq with rfl | hq
   ·exact absurd he hp
   ·exact ⟨q,hq,he⟩
theorem Yl2 (l:Yaf) (key:ByteArray):(∃ p∈l,p.1=key∧Yag l key=(true,p.2))∨((∀ p∈l,p.1≠key)∧Yag l key=(false,ByteArray.empty)):=by
 induction l with
 | nil=>exact .inr ⟨fun p hp=>(List.not_mem_nil hp).elim,rfl⟩
 | cons p r ih=>
  rw [Yag];by_cases hp:p.1=key
  ·exact .inl ⟨p,by simp,hp,by rw [if_pos hp]⟩
  ·rw [if_neg hp]
   rcases ih with ⟨q,hq,h1,h2⟩ | ⟨h1,h2⟩
   ·exact .inl ⟨q,by simp [hq],h1,h2⟩
   ·exact .inr ⟨fun q hq=>by
     rcases List.mem_cons.1 hq with rfl | hq
     ·exact hp
     ·exact h1 q hq,h2⟩
theorem Y01 {ps:Yaf} (h:Ybi ps) {p q:ByteArray×ByteArray} (hp:p∈ps) (hq:q∈ps) (e:p.1=q.1):p=q:=by
 obtain ⟨i,hi,rfl⟩:=List.getElem_of_mem hp;obtain ⟨j,hj,rfl⟩:=List.getElem_of_mem hq;rcases Nat.lt_trichotomy i j with h1 | h1 | h1
 ·exact absurd e (Yek (h i j hi hj h1))
 ·subst h1;rfl
 ·exact absurd e.symm (Yek (h j i hj hi h1))
def Yb9 (s:Sv) (n j:Nat):Yaf:=(List.range n).flatMap s.cont ++ (s.cont n).take j
theorem Y02 (s:Sv) (n:Nat):Yb9 s n (s.cont n).length=Yb9 s (n+1) 0:=by
 unfold Yb9;rw [List.range_succ,List.flatMap_append,List.take_length,List.take_zero];simp
theorem Y03 (s:Sv) (n j:Nat) (h:j<(s.cont n).length):Yb9 s n (j+1)=Yb9 s n j ++ [(s.cont n)[j]]:=by
 unfold Yb9;rw [List.append_assoc];simp
theorem Ys5 (g:Yar s) (hb:Ygd s) (key:ByteArray):Yag (Yb9 s 8 0).reverse key=Yag (s.cont (Yae key)) key:=by
 have hm:∀ p,p∈(Yb9 s 8 0).reverse↔∃ n,n<8∧p∈s.cont n:=fun p=>by
  unfold Yb9;simp
 rcases Yl2 (s.cont (Yae key)) key with ⟨p,hp,h1,h2⟩ | ⟨h1,h2⟩
 ·rw [h2]
  refine Yod (fun q hq e=>?_) ⟨p,(hm p).2 ⟨_,Ycy key,hp⟩,h1⟩;obtain ⟨n,hn,hq'⟩:=(hm q).1 hq;have:n=Yae key:=by rw [←hb n hn q hq',e]
  subst this;rw [Y01 (g.rise _ hn).1 hq' hp (by rw [e,h1])]
 ·rw [h2]
  exact Yns fun q hq e=>by
   obtain ⟨n,hn,hq'⟩:=(hm q).1 hq;have:n=Yae key:=by rw [←hb n hn q hq',e]
   subst this;exact h1 q hq' e
theorem Yab.beside (h:Yab w w1 s s') {mb:Nat} (hm:w.heap.size≤mb) (hn:∀ tag,s'.blk tag≠some mb) (hk:∀ q,q<w1.heap.size→q≠mb→w2.heap[q]? = w1.heap[q]?) (hb:Below 0 w1 w2):Yab w w2 s s':=by
 have hz:=h.below.size;refine ⟨h.lies.frame (fun tag k hk'=>hk k (h.lies.lt tag k hk') (fun e=>hn tag (by rw [←e];exact hk'))) hb.size,h.good,h.grown,fun q hq hnt=>?_,h.below.trans hb⟩;exact (hk q (by omega) (by omega)).trans (h.off q hq hnt)
theorem Ys6 (hm:Maps.IsMap M) (k key:ByteArray) (is:Bool) (v:ByteArray):Yat (M.put (lit k) (.held (.agg #[.bool is,.string v]))) key=if key=k then (is,v) else Yat M key:=by
 by_cases hs:key=k
 ·subst hs
  rw [if_pos rfl];unfold Yat Yc4;rw [Maps.atKey_put_same hm (by simp [WideAt.IsKeyLit])];rfl
 ·rw [if_neg hs]
  unfold Yat Yc4;rw [Maps.atKey_put_other (fun e=>hs (Yhg e))]
structure Yfr (w:World) (b n:Nat) (M:DataW Value) (l:Yaf):Prop where
 map:Yap w 9 b n M
 ok:Ydz M
 num:n≤l.length
 says:∀ key,Yat M key=Yag l.reverse key
theorem Ys7 (h:Yan w s) (g:Yar s):
 Calls prog 79 #[.pointer (some ⟨s.kb,2,none⟩)] w fun e w'=>e=.returned (.map (some w.heap.size))∧∃ n M s',Yfr w' w.heap.size n M (Yb9 s 8 0)∧Yau s s'∧Yab w w' s s'∧∀ tag,s'.blk tag≠some w.heap.size:=by
 have hmm:=@run_makeMap prog
 have hSK:Maps.Keyed prog 9:=Maps.string_keyed underlying9
 have hB0:Below w.heap.size w (w.alloc (.map #[] 0)):=(Below.refl _ w).alloc (Nat.le_refl _) _
 have HST:Hid (∃ n M s',Yfr (w.alloc (.map #[] 0)) w.heap.size n M (Yb9 s 0 0)∧Yau s s'∧Yab w (w.alloc (.map #[] 0)) s s'∧∀ tag,s'.blk tag≠some w.heap.size):=
  ⟨0,.map [],s,⟨World.ownsMap_made w prog 9 Yb0,Ydz.empty,Nat.zero_le _,fun key=>by
   unfold Yat Yc4;rw [Maps.atKey_of_not_has (by simp [Maps.has_eq])];simp [Yb9,Yag,Ynx]⟩,Yau.refl s,Yab.of_below h g hB0,fun tag ht=>by have:=h.lt tag _ ht;omega⟩
 have KP:Hid (∀ (W:World) (sX:Sv) (n nM:Nat) (M:DataW Value),n<8→Yfr W w.heap.size nM M (Yb9 s n 0)→Yau s sX→Yab w W s sX→(∀ tag,sX.blk tag≠some w.heap.size)→Calls prog 111 #[.pointer (some ⟨s.kb,2,none⟩),.int .i64 (n:Int)] W fun e w'=>∃ gb x cp,e=.returned (.pointer (some ⟨gb,0,none⟩))∧w'.cell? ⟨gb,1,none⟩=some (.slice x (s.cont n).length cp)∧w'.ownsRow 0 43 2 (.slice x (s.cont n).length cp) (s.cont n).length (Yad (s.cont n))∧(Value.slice x (s.cont n).length cp).ownBlock≠some w.heap.size∧Yfr w' w.heap.size nM M (Yb9 s n 0)∧∃ s',Yau s s'∧Yab w w' s s'∧∀ tag,s'.blk tag≠some w.heap.size):=fun W sX n nM M hn hc hp hg hnb=>by
  have hkb:sX.kb=s.kb:=hp.same.1;rw [←hkb];refine (Yrp hg.lies hg.good n hn).mono ?_;rintro e w' ⟨s',p,rfl,h1,h2,h3⟩;have hmb:=hc.map.lt;have hnb':∀ tag,s'.blk tag≠some w.heap.size:=fun tag ht=>by
   rcases h3.grown tag _ ht with h4 | h4
   ·exact hnb tag h4
   ·omega
  have hp':=hp.trans h2;have hct:s'.cont=s.cont:=hp'.same.2.2.1;have hpg:=h3.lies.comp (.page n) p h1;have hrow:=h3.lies.comp (.row n) p h1;rw [hct] at hrow;obtain ⟨x,cp,hx,_⟩:=Ya6 hrow;rw [hx] at hrow hpg;exact ⟨p.g,x,cp,rfl,Yaa (j:=1) hpg rfl,hrow,by rw [←hx];exact fun e=>hnb' (.row n) (by rw [Yhj h1];exact e),⟨hc.map.kept (h3.off _ hmb hnb),hc.ok,hc.num,hc.says⟩,s',hp',hg.trans h3,hnb'⟩
 have HRI:Hid (∀ n,n<8→(s.cont n).length≤4∧∀ p∈s.cont n,p.1.size≤8∧p.2.size≤12):=fun n hn=>(g.rise n hn).2
 generalize hkb:s.kb=kb at KP ⊢
 clear h g hB0
 go_enter func79,ntmps79
 go_wp2
 go_loopw [8] (fun i wr=>∃ n:Nat,n≤8∧i=.int .i64 n∧∃ nM M s',Yfr wr w.heap.size nM M (Yb9 s n 0)∧Yau s s'∧Yab w wr s s'∧∀ tag,s'.blk tag≠some w.heap.size) (fun i _=>8 - (intOf i).toNat)
 case atStart=>exact ⟨0,by omega,rfl,HST.out⟩
 case round=>
  obtain ⟨n,hn,rfl,nM,M,sX,hcA,hpA,hgA,hnA⟩:=hrel;have HA:Hid (Yfr wr w.heap.size nM M (Yb9 s n 0)∧Yau s sX∧Yab w wr s sX∧∀ tag,sX.blk tag≠some w.heap.size):=⟨hcA,hpA,hgA,hnA⟩;clear hcA hpA hgA hnA;by_cases hlt:n<8
  ·have hlt':(n:Int)<8:=by omega
   obtain ⟨wa,rfl⟩:∃ wa,wa=wr:=⟨_,rfl⟩;obtain ⟨hps4,hpsz⟩:=HRI.out n hlt;have HPS:=Yh hpsz;clear hpsz;go_wp2_with (first
    | (go_at_call 111;go_must (
     refine (KP.out wa sX n nM M hlt HA.out.1 HA.out.2.1 HA.out.2.2.1 HA.out.2.2.2).mono ?_;rintro e w1 ⟨gb,x,cp,rfl,cg,hrow,hno,hcB,hrest⟩;have HROW:=Yh hrow;have HNO:=Yh hno;have HCB:=Yh hcB;have HRE:=Yh hrest;clear hrow hno hcB hrest)))
   go_loopw [18] (fun i wr=>∃ (j nK:Nat) (K:DataW Value),j≤(s.cont n).length∧i=.int .i64 j∧Yfr wr w.heap.size nK K (Yb9 s n j)∧(∀ q,q<w1.heap.size→q≠w.heap.size→wr.heap[q]? = w1.heap[q]?)∧Below 0 w1 wr) (fun i _=>(s.cont n).length - (intOf i).toNat)
   case atStart=>exact ⟨0,nM,M,by omega,rfl,HCB.out,fun _ _ _=>rfl,Below.refl _ _⟩
   case round=>
    obtain ⟨j,nK,K,hj,rfl,hcK,hfr,hbw⟩:=hrel;have HCK:=Yh hcK;have HFR:=Yh hfr;have HBW:=Yh hbw;have hzw:w.heap.size<wr.heap.size:=hcK.map.lt;have HOR:Hid (wr.ownsRow 0 43 2 (.slice x (s.cont n).length cp) (s.cont n).length (Yad (s.cont n))):=Yda HROW.out (fun q hq=>hfr q (HROW.out.lt q hq).2 (fun e=>HNO.out (by rw [hq,e])));clear hcK hfr hbw cg hmm;by_cases hltj:j<(s.cont n).length
    ·have hltj':(j:Int)<((s.cont n).length:Int):=by omega
     obtain ⟨g2,cap',he⟩:=Ybn HOR.out (by omega);simp only [Value.slice.injEq] at he;obtain ⟨rfl,-,rfl⟩:=he;obtain ⟨hc0,hc1⟩:=Ye2 (s.cont n) j (s.cont n)[j] (List.getElem?_eq_getElem hltj);have c0:=Yal HOR.out hc0;have c1:=Yal HOR.out hc1;have hpk:(s.cont n)[j].1.size≤8∧(s.cont n)[j].2.size≤12:=HPS.out _ (List.getElem_mem hltj);have HSN:Hid (Yb9 s n (j+1)=Yb9 s n j ++ [(s.cont n)[j]]):=Y03 s n j hltj;have hnum:nK≤1000:=by
      have h1:=HCK.out.num;have h2:(Yb9 s n j).length≤4*n+4:=by
       unfold Yb9;rw [List.length_append];have h3:∀ m,m≤8→((List.range m).flatMap s.cont).length≤4*m:=fun m=>by
        induction m with
        | zero=>intro _;simp
        | succ m ih=>
         intro hm;rw [List.range_succ,List.flatMap_append,List.length_append];have:=ih (by omega);have:=(HRI.out m (by omega)).1;have e1:([m].flatMap s.cont).length=(s.cont m).length:=by simp
         omega
       have:=h3 n hn;have:((s.cont n).take j).length≤4:=by simp;omega
       omega
      omega
     clear hc0 hc1;generalize (s.cont n)[j]=pj at c0 c1 hpk HSN;obtain ⟨pk,pv⟩:=pj;simp only at c0 c1 hpk;go_wp2_with (first
      | (at_mapUpdate;go_must (
       refine wpList_mapUpdate_in _ rfl _ _ _ 138 rfl 9 38 hSK underlying138 Yb0 w.heap.size nK K rfl ?hm (by unfold maxLen;omega) (.string pk) (.agg #[.bool true,.string pv]) (lit pk) rfl rfl (Yfj pk (by omega)) (.held (.agg #[.bool true,.string pv])) [] rfl ?_
       case hm=>exact HCK.out.map.kept (Below.heap_alloc _ _ _ hzw)
       intro w5 hm5 htu5;have HM5:=Yh hm5;have HT5:=Yh htu5;clear hm5 htu5)))
     obtain ⟨t1,t2,t3⟩:=Ygq HT5.out;have hIs:=World.ownsMap.isMap HCK.out.map;refine ⟨⟨j+1,nK+1,_,by omega,by simp,⟨HM5.out,HCK.out.ok.put hIs pk hpk.1 true pv hpk.2,?_,fun key=>?_⟩,fun q h1 h2=>?_,?_⟩,by simp [intOf];omega⟩
     ·rw [HSN.out,List.length_append]
      have:=HCK.out.num;simp;omega
     ·rw [Ys6 hIs,HSN.out,List.reverse_append,HCK.out.says]
      show _=Yag ((pk,pv) :: _) key;rw [Yag];by_cases he:key=pk
      ·rw [if_pos he,if_pos he.symm]
      ·rw [if_neg he,if_neg (fun e=>he e.symm)];rfl
     ·rw [t1 q h2,Below.heap_alloc _ _ _ (by have:=HBW.out.size;omega)];exact HFR.out q h1 h2
     ·exact (HBW.out.alloc (Nat.zero_le _) _).trans t3
    ·obtain rfl:j=(s.cont n).length:=by omega
     go_wp2;obtain ⟨s',r1,r2,r3⟩:=HRE.out;refine ⟨⟨n+1,by omega,by simp,nK,K,s',?_,r1,r2.beside (Nat.le_refl _) r3 HFR.out HBW.out,r3⟩,by simp [intOf];omega⟩;rw [←Y02];exact HCK.out
  ·obtain rfl:n=8:=by omega
   go_wp2;go_ret;exact ⟨rfl,nM,M,sX,HA.out⟩
structure Ys8 (w':World) (B:Nat) (s':Sv) (v:Value) (ps:Yaf):Prop where
 row:w'.ownsRow B 43 2 v ps.length (Yad ps)
 apart:∀ tag k,s'.blk tag=some k→k<B
 rise:Ybi ps
theorem Yab.on_below (h:Yab w w1 s s') (hb:Below w1.heap.size w1 w2):Yab w w2 s s':=h.trans (Yab.of_below h.lies h.good hb)
theorem Y04 (h:Yan w s) (g:Yar s) (hb:Ygd s):
 Calls prog 276 #[.pointer (some ⟨s.kb,0,none⟩)] w fun e w'=>∃ v B ps s',e=.returned v∧w.heap.size≤B∧Ys8 w' B s' v ps∧(∀ key,Yag ps key=Yag (s.cont (Yae key)) key)∧Yau s s'∧Yab w w' s s':=by
 have KC:=Yh (Ys7 h g)
 have HU:Hid (∀ key,Yag (Yb9 s 8 0).reverse key=Yag (s.cont (Yae key)) key):=Ys5 g hb
 have HN:Hid ((Yb9 s 8 0).length≤1000):=by
  have h3:∀ m,m≤8→((List.range m).flatMap s.cont).length≤4*m:=fun m=>by
   induction m with
   | zero=>intro _;simp
   | succ m ih=>
    intro hm;rw [List.range_succ,List.flatMap_append,List.length_append];have:=ih (by omega);have:=(g.rise m (by omega)).2.1;have e1:([m].flatMap s.cont).length=(s.cont m).length:=by simp
    omega
  have:=h3 8 (by omega);show (Yb9 s 8 0).length≤1000;unfold Yb9;simp only [List.length_append,List.take_zero,List.length_nil];omega
 generalize hkb:s.kb=kb at KC ⊢
 clear h g hb
 go_enter func276,ntmps276
 go_wp2_with (first
  | (go_at_call 79;go_must (
   refine KC.out.mono ?_;rintro e w1 ⟨rfl,n,M,s',h1,h2,h3,h4⟩;have HX:Hid (Yfr w1 w.heap.size n M (Yb9 s 8 0)∧Yau s s'∧Yab w w1 s s'):=⟨h1,h2,h3⟩;clear h1 h2 h3 h4))
  | (go_at_call 78;go_must (
   refine (Ys4 HX.out.1.map HX.out.1.ok (by have:=HX.out.1.num;have:=HN.out;omega)).mono ?_;rintro e w2 ⟨v,ks,rfl,k1,k2,k3⟩;have HY:Hid (Yfq M ks∧w2.ownsRow w1.heap.size 43 2 v (Ycz M ks).length (Yad (Ycz M ks))∧Below w1.heap.size w1 w2):=⟨k1,k2,k3⟩;clear k1 k2 k3)))
 go_ret
 obtain ⟨k1,k2,k3⟩:=HY.out
 obtain ⟨h1,h2,h3⟩:=HX.out
 refine ⟨v,w1.heap.size,Ycz M ks,s',rfl,h3.below.size,⟨k2,fun tag k hk=>h3.lies.lt tag k hk,Ygr.2 (Yl1 k1.rise)⟩,fun key=>?_,h2,h3.on_below k3⟩
 rw [Ys3 k1,h1.says,HU.out]
 rcases Yl2 (s.cont (Yae key)) key with ⟨p,_,_,e⟩ | ⟨_,e⟩ <;> rw [e] <;> rfl
theorem Y05 (c:Nat) (w:World):(method 476 234 (.pointer (some ⟨c,0,none⟩)) "Committed").run prog w=.ok (301,.pointer (some ⟨c,0,none⟩)) w:=by kernel_rfl
theorem Y06 (c:Nat) (w:World):(method 476 224 (.pointer (some ⟨c,0,none⟩)) "Committed").run prog w=.ok (276,.pointer (some ⟨c,0,none⟩)) w:=by kernel_rfl
theorem Y07 (a kb:Nat) (R:Value→World→Prop) (ca:w.cell? ⟨a,2,none⟩=some (.iface 234 (.pointer (some ⟨kb,0,none⟩)))) (K:Calls prog 301 #[.pointer (some ⟨kb,0,none⟩)] w fun e w'=>∃ v,e=.returned v∧R v w'):
 Calls prog 35 #[.pointer (some ⟨a,0,none⟩)] w fun e w'=>∃ v,e=.returned (.tuple #[v,.int .i64 0])∧R v w':=by
 have HK:=Yh K
 have hme:=Y05
 clear K
 go_enter func35,ntmps35
 go_wp2_with (first
  | (go_at_call 41;refine (Yf9 _ _ _ _ ca).mono ?_;rintro e w' ⟨rfl,rfl⟩)
  | (go_at_call 301;go_must (refine HK.out.mono ?_;rintro e w' ⟨v,rfl,hr⟩;have HR:=Yh hr;clear hr)))
 go_ret2
 exact ⟨v,rfl,HR.out⟩
theorem Y08 (a kb:Nat) (R:Value→World→Prop) (ca:w.cell? ⟨a,2,none⟩=some (.iface 224 (.pointer (some ⟨kb,0,none⟩)))) (K:Calls prog 276 #[.pointer (some ⟨kb,0,none⟩)] w fun e w'=>∃ v,e=.returned v∧R v w'):
 Calls prog 35 #[.pointer (some ⟨a,0,none⟩)] w fun e w'=>∃ v,e=.returned (.tuple #[v,.int .i64 0])∧R v w':=by
 have HK:=Yh K
 have hme:=Y06
 clear K
 go_enter func35,ntmps35
 go_wp2_with (first
  | (go_at_call 41;refine (Yf9 _ _ _ _ ca).mono ?_;rintro e w' ⟨rfl,rfl⟩)
  | (go_at_call 276;go_must (refine HK.out.mono ?_;rintro e w' ⟨v,rfl,hr⟩;have HR:=Yh hr;clear hr)))
 go_ret2
 exact ⟨v,rfl,HR.out⟩
def Ydh (c:Nat→Yaf) (M:DataW Value):List ByteArray→Nat→Yaf
 | []=>c
 | k :: r=>Ydh (fun n=>if n=Yae k then Yaw (c n) k (Yat M k).1 (Yat M k).2 else c n) M r
theorem Yoe (M:DataW Value):∀ (l:List ByteArray) (c:Nat→Yaf) (k:ByteArray),Ydh c M (l ++ [k])=fun n=>if n=Yae k then Yaw (Ydh c M l n) k (Yat M k).1 (Yat M k).2 else Ydh c M l n
 | [],_,_=>rfl
 | _ :: r,_,k=>Yoe M r _ k
theorem Ys9 {c:Nat→Yaf} (M:DataW Value) (hr:∀ n,n<8→Ybi (c n)):∀ (l:List ByteArray),(∀ n,n<8→Ybi (Ydh c M l n))∧(∀ n,n<8→∀ p∈Ydh c M l n,p∈c n∨(p.1∈l∧Yae p.1=n)) ∧
 (∀ key,(key∈l→Yag (Ydh c M l (Yae key)) key=if (Yat M key).1 then (true,(Yat M key).2) else (false,ByteArray.empty))∧(key∉l→Yag (Ydh c M l (Yae key)) key=Yag (c (Yae key)) key)):=by
 intro l
 have hl:∃ l',l=List.reverse l':=⟨l.reverse,by simp⟩
 obtain ⟨l',rfl⟩:=hl
 induction l' with
 | nil=>exact ⟨hr,fun n hn p hp=>.inl hp,fun key=>⟨fun h=>by simp at h,fun _=>by simp [Ydh]⟩⟩
 | cons k r ih=>
  obtain ⟨h1,h2,h3⟩:=ih;rw [List.reverse_cons,Yoe];refine ⟨fun n hn=>?_,fun n hn p hp=>?_,fun key=>?_⟩
  ·by_cases hk:n=Yae k
   ·simp only [hk,if_true];rw [←hk];exact Yfn (h1 n hn) _ _ _
   ·simp only [hk,if_false];exact h1 n hn
  ·by_cases hk:n=Yae k
   ·simp only [hk,if_true] at hp
    rw [←hk] at hp;rcases Yhk (h1 n hn) _ _ _ hp with h4 | ⟨_,h4⟩
    ·rcases h2 n hn p h4 with h5 | ⟨h5,h6⟩
     ·exact .inl h5
     ·exact .inr ⟨by simp at h5 ⊢;exact .inl h5,h6⟩
    ·rw [h4];exact .inr ⟨by simp,hk.symm⟩
   ·simp only [hk,if_false] at hp
    rcases h2 n hn p hp with h5 | ⟨h5,h6⟩
    ·exact .inl h5
    ·exact .inr ⟨by simp at h5 ⊢;exact .inl h5,h6⟩
  ·by_cases hb:Yae key=Yae k
   ·simp only [hb,if_true]
    rw [←hb,Yib (h1 _ (Ycy key))];by_cases he:key=k
    ·subst he
     exact ⟨fun _=>by simp,fun h=>absurd (by simp) h⟩
    ·rw [if_neg he]
     exact ⟨fun h=>(h3 key).1 (by simpa [he] using h),fun h=>(h3 key).2 (by simpa [he] using h)⟩
   ·simp only [hb,if_false]
    have he:key≠k:=fun e=>hb (by rw [e])
    exact ⟨fun h=>(h3 key).1 (by simpa [he] using h),fun h=>(h3 key).2 (by simpa [he] using h)⟩
def Ydc (last len j:Nat):Nat:=if j=0 then last else len+j
theorem Yta {last len:Nat} (h:last≤len) (j:Nat):Ydc last len j≤len+j:=by
 unfold Ydc;split <;> omega
theorem Ytb (last len j:Nat):Ydc last len (j+1)=len+(j+1):=by simp [Ydc]
def Sv.ents (s:Sv):List Yac:=s.log.map (·.1)
structure Ent (s s':Sv) (t:Int) (x x':TxE) (n:Nat) (es:List Yac):Prop where
 cont:s'.cont=s.cont
 tx:s'.tx=fun u=>if u=t then some x' else s.tx u
 xH:x'.H=x.H∧x'.nH=x.nH∧x'.last=Ydc x.last s.len n
 nums:s'.len=s.len+n∧s'.acts=s.acts∧s'.begun=s.begun∧s'.start=s.start
 same:s'.kb=s.kb∧s'.mo=s.mo∧s'.made=s.made∧s'.mt=s.mt∧s'.mc=s.mc
 log:s'.ents=s.ents ++ es
theorem Ent.last (h:Ent s s' t x x' n es) (hl:x.last≤s.len):x'.last≤s'.len:=by
 rw [h.xH.2.2,h.nums.1];exact Yta hl n
theorem Ent.refl (hx:s.tx t=some x):Ent s s t x x 0 []:=
 ⟨rfl,by
  funext u;by_cases hu:u=t
  ·rw [if_pos hu,hu];exact hx
  ·rw [if_neg hu],⟨rfl,rfl,rfl⟩,⟨rfl,rfl,rfl,rfl⟩,⟨rfl,rfl,rfl,rfl,rfl⟩,(List.append_nil _).symm⟩
theorem Ent.paged {s2:Sv} (h:Ent s s' t x x' n es) (p:Yau s' s2):Ent s s2 t x x' n es:=by
 obtain ⟨P,m,rfl,_⟩:=p;exact ⟨h.cont,h.tx,h.xH,h.nums,h.same,h.log⟩
theorem Ent.enter (h:Ent s s' t x x' n es) (e:Yac) (v':Value):Ent s (Ybr s' t x' e v') t x { x' with last:=s'.len+1 } (n+1) (es ++ [{ e with tx:=t,prev:=(Ydc x.last s.len n:Int) }]):=by
 obtain ⟨h1,h2,h3,h4,h5,h6⟩:=h;refine ⟨h1,?_,⟨h3.1,h3.2.1,?_⟩,⟨?_,h4.2⟩,h5,?_⟩
 ·funext u
  show (if u=t then some { x' with last:=s'.len+1 } else s'.tx u)=_;by_cases hu:u=t
  ·rw [if_pos hu,if_pos hu]
  ·rw [if_neg hu,if_neg hu,h2];simp [hu]
 ·show s'.len+1=Ydc x.last s.len (n+1)
  rw [h4.1,Ytb];omega
 ·show s'.len+1=s.len+(n+1)
  rw [h4.1];omega
 ·show List.map (fun p=>p.1) (s'.log ++ [_])=_
  rw [List.map_append,←List.append_assoc,←h6,←h3.2.2];rfl
structure Yje (s s':Sv) (t:Int) (x':TxE) (n j:Nat) (c:Nat→Yaf) (es:List Yac):Prop where
 cont:s'.cont=c
 tx:s'.tx=fun u=>if u=t then some x' else s.tx u
 nums:s'.len=s.len+n∧s'.acts=s.acts∧s'.begun=s.begun∧s'.start=s.start∧s'.mc.n=s.mc.n+j
 same:s'.kb=s.kb∧s'.mo=s.mo∧s'.made=s.made∧s'.mt=s.mt
 log:s'.ents=s.ents ++ es
theorem Yje.made {c:Nat→Yaf} (h:Yje s s' t x' n j c es) {md:Ybh} (hm:Ya7 s md):Ya7 s' md:=by
 obtain ⟨_,_,h4,h5,_⟩:=h;exact ⟨h5.2.2.1.trans hm.made,by rw [h5.2.2.2];exact hm.have',by rw [h5.2.2.2];exact hm.lack,by rw [h5.2.2.2,h4.2.1];exact hm.cells,by rw [h4.2.1];exact hm.num⟩
structure Yfs (s s':Sv) (t:Int) (c:Nat→Yaf) (n:Nat) (es:List Yac):Prop where
 cont:s'.cont=c
 tx:s'.tx=fun u=>if u=t then none else s.tx u
 mt:s'.mt=fun u=>if u=t then none else s.mt u
 nums:s'.acts=s.acts∧s'.begun=s.begun∧s'.kb=s.kb∧s'.start=s.start∧s'.mo.M=s.mo.M.del (.int .i64 t)∧s'.len≤s.len+n
 grew:s.len≤s'.len
 log:s'.ents=s.ents ++ es
theorem Y09 (h:Yan w s) (hm:Ya7 s md) (t:Int) (ht:Yax t) {m:Ybh} (hmt:s.mt t=some m):(Instr.lookup 231 (.map (some md.b)) (.int .i64 t) false).run prog w=.ok (.map (some m.b)) w:=by
 have:=Ykk h hm t ht;rw [hmt] at this;exact this
theorem Y1a (h:Yan w s) (g:Yar s) (hh:Yao s q) (hm:Ya7 s md) (t:Int) (ht:Yax t) (hmt:s.mt t=none):
 Calls prog 275 #[.pointer (some ⟨s.kb,0,none⟩),.int .i64 t] w fun e w'=>e=.returned (.tuple #[])∧∃ s' md',Yfs s s' t s.cont 0 []∧Ya7 s' md'∧Yab w w' s s'∧Yao s' q:=by
 have c8:=Yi7 h hm
 have hlk:=Ykk h hm t ht
 rw [hmt] at hlk
 simp only [Option.map_none] at hlk
 have KK:Hid (Calls prog 110 #[.map none] w fun e w'=>e=.returned (.func (.func 156) #[] #[.pointer (some ⟨w.heap.size,0,none⟩)])∧w'=w.alloc (.cells #[.map none] 138)):=Yoc _ w
 have KS:=Yh (Y0v w)
 have KE:Hid (∀ W,Below w.heap.size w W→Calls prog 284 #[.pointer (some ⟨s.kb,0,none⟩),.int .i64 t] W fun e w'=>e=.returned (.tuple #[])∧∃ s' md',Yfs s s' t s.cont 0 []∧Ya7 s' md'∧Yab w w' s s'∧Yao s' q):=fun W hW=>by
  refine (Yny (h.below hW) g hh hm t ht).mono ?_;rintro e w' ⟨h1,h2,h3,h4⟩;exact ⟨h1,Ybv (Yb5 s md t) t,_,⟨rfl,rfl,rfl,⟨rfl,rfl,rfl,rfl,rfl,Nat.le_refl _⟩,Nat.le_refl _,(List.append_nil _).symm⟩,h4,(Yab.of_below h g hW).trans h2,h3⟩
 have HB:Hid (∀ w2,Below (w.alloc (.cells #[.map none] 138)).heap.size (w.alloc (.cells #[.map none] 138)) w2→Below w.heap.size w w2):=fun w2 h2=>((Below.refl _ w).alloc (Nat.le_refl _) _).trans (h2.mono (by simp))
 generalize hP:(fun w'=>∃ s' md',Yfs s s' t s.cont 0 []∧Ya7 s' md'∧Yab w w' s s'∧Yao s' q)=P
 have KE2:Hid (∀ W,Below w.heap.size w W→Calls prog 284 #[.pointer (some ⟨s.kb,0,none⟩),.int .i64 t] W fun e w'=>e=.returned (.tuple #[])∧P w'):=by rw [←hP];exact KE.out
 show Calls prog 275 #[.pointer (some ⟨s.kb,0,none⟩),.int .i64 t] w fun e w'=>e=.returned (.tuple #[])∧(fun w'=>∃ s' md',Yfs s s' t s.cont 0 []∧Ya7 s' md'∧Yab w w' s s'∧Yao s' q) w'
 rw [hP]
 generalize hkb:s.kb=kb at c8 KE2
 clear h g hh hm KE hP
 go_enter func275,ntmps275
 go_wp2_with (first
  | (go_at_call 110;go_must (
   refine KK.out.mono ?_;rintro e w0 ⟨rfl,rfl⟩))
  | (go_at_call 109;go_must (
   refine KS.out.mono ?_;rintro e w1 ⟨rfl,hb1⟩;have HB1:Hid (Below w.heap.size w w1):=HB.out w1 hb1;clear hb1)))
 go_loopw [21] (fun i wr=>i=.int .i64 0∧wr=w1) (fun _ _=>0)
 case atStart=>exact ⟨rfl,rfl⟩
 case round=>
  obtain ⟨rfl,rfl⟩:=hrel;go_wp2;go_loopw [58] (fun i w2=>i=.int .i64 0∧w2=wr) (fun _ _=>0)
  case atStart=>exact ⟨rfl,rfl⟩
  case round=>
   obtain ⟨rfl,rfl⟩:=hrel;go_wp2_with (first
    | (go_at_call 284;go_must (
     refine (KE2.out _ HB1.out).mono ?_;rintro e w3 ⟨rfl,hp⟩;have HP:=Yh hp;clear hp)))
   go_end0;exact ⟨rfl,HP.out⟩
def Yd2 (s:Sv) (M:DataW Value) (k:ByteArray):Yac:=⟨1,0,0,0,k,(Yag (s.cont (Yae k)) k).1,(Yag (s.cont (Yae k)) k).2,(Yat M k).1,(Yat M k).2⟩
theorem Ytc (h:Ydz M) (k:ByteArray):(Yat M k).2.size≤12:=by
 rcases h k with h1 | ⟨is,val,_,h2,h1⟩
 ·unfold Yat Yc4;rw [h1];simp [Ynx]
 ·unfold Yat Yc4;rw [h1];exact h2
theorem Ent.held (h:Ent s s' t x x' n es) (hx:s.tx t=some x) (hh:Yao s q):Yao s' q:=fun u y hy=>by
 rw [h.tx] at hy;by_cases hu:u=t
 ·simp only [hu,if_true,Option.some.injEq] at hy
  subst hy;obtain ⟨h1,h2,h3⟩:=hh t x hx;rw [h.xH.1,h.xH.2.1];exact ⟨h1,h2,h3⟩
 ·simp only [hu,if_false] at hy
  exact hh u y hy
theorem Yje.held {c:Nat→Yaf} (h:Yje s s' t x' n j c es) (hH:x'.H=x.H∧x'.nH=x.nH) (hx:s.tx t=some x) (hh:Yao s q):Yao s' q:=fun u y hy=>by
 rw [h.tx] at hy;by_cases hu:u=t
 ·simp only [hu,if_true,Option.some.injEq] at hy
  subst hy;obtain ⟨h1,h2,h3⟩:=hh t x hx;rw [hH.1,hH.2];exact ⟨h1,h2,h3⟩
 ·simp only [hu,if_false] at hy
  exact hh u y hy
def Yft (s:Sv) (M:DataW Value) (t:Int) (last:Nat) (ks:List ByteArray):List Yac:=ks.mapIdx fun j k=>{ Yd2 s M k with tx:=t,prev:=(Ydc last s.len j:Int) }
theorem Y1b (s:Sv) (M:DataW Value) (t:Int) (last:Nat) (ks:List ByteArray) (i:Nat) (h:i<ks.length):Yft s M t last (ks.take (i+1))=Yft s M t last (ks.take i) ++ [{ Yd2 s M ks[i] with tx:=t,prev:=(Ydc last s.len i:Int) }]:=by
 rw [Yft,Yft,List.take_succ_eq_append_getElem h,List.mapIdx_concat,List.length_take,Nat.min_eq_left (by omega)]
abbrev Yge:Yac:=⟨3,0,0,0,ByteArray.empty,false,ByteArray.empty,false,ByteArray.empty⟩
def Ygf (s:Sv) (M:DataW Value) (t:Int) (last:Nat) (ks:List ByteArray):List Yac:=if ks=[] then [] else Yft s M t last ks ++ [{ Yge with tx:=t,prev:=(Ydc last s.len ks.length:Int) }]
def Rd1 (W1:World) (s:Sv) (t:Int) (x:TxE) (M:DataW Value) (ks:List ByteArray) (i:Nat) (w:World):Prop:=∃ s' x',Ent s s' t x x' i (Yft s M t x.last (ks.take i))∧Yab W1 w s s'
def Rd2 (W1:World) (s:Sv) (t:Int) (x:TxE) (M:DataW Value) (ks:List ByteArray) (n i:Nat) (w:World):Prop:=∃ s' x',Yje s s' t x' n i (Ydh s.cont M (ks.take i)) (Ygf s M t x.last ks)∧(x'.H=x.H∧x'.nH=x.nH)∧Yab W1 w s s'
structure Com (W1:World) (s:Sv) (q:Nat) (md m:Ybh) (t:Int) (x:TxE) (ks:List ByteArray):Prop where
 lies:Yan W1 s
 good:Yar s
 held:Yao s q
 cap:Cap s
 made:Ya7 s md
 mt:s.mt t=some m
 ht:0≤t∧t<256
 hx:s.tx t=some x
 last:x.last≤s.len
 keys:Yfq m.M ks
 all:∀ k,k∈ks→Ybc x.H k=2
 room:s.len+ks.length+1≤391
 nrm:∀ k,(Yat m.M k).1=false→(Yat m.M k).2.size=0
theorem Com.ksz (C:Com W1 s q md m t x ks) {k:ByteArray} (hk:k∈ks):k.size≤8:=by
 have h1:=(C.keys.mem k).1 hk;rcases (C.made.cells t m C.mt).1 k with h2 | ⟨_,_,h2,_⟩
 ·rw [Maps.has_false_of_atKey h2] at h1;cases h1
 ·exact h2
theorem Com.look (C:Com W1 s q md m t x ks) {k:ByteArray} (hk:k∈ks) (hmt:s'.mt=s.mt) (h:Yan W s'):
 (Instr.lookup 138 (.map (some m.b)) (.string k) false).run prog W=.ok (.agg #[.bool (Yat m.M k).1,.string (Yat m.M k).2]) W:=
 Ys1 (h.comp (.madeOf t) m (by rw [hmt];exact C.mt)) (C.made.cells t m C.mt).1 k (by have:=C.ksz hk;omega)
theorem Com.get (C:Com W1 s q md m t x ks) {k:ByteArray} (hk:k∈ks) {i:Nat} (h:Rd1 W1 s t x m.M ks i W):
 Calls prog 289 #[.pointer (some ⟨s.kb,2,none⟩),.string k] W fun e w'=>e=.returned (.agg #[.bool (Yag (s.cont (Yae k)) k).1,.string (Yag (s.cont (Yae k)) k).2])∧Rd1 W1 s t x m.M ks i w':=by
 obtain ⟨s',x',h1,h2⟩:=h
 have K:=Ylq h2.lies h2.good k (C.ksz hk)
 rw [h1.same.1,h1.cont] at K
 refine K.mono ?_
 rintro e w' ⟨e1,s2,p2,g2⟩
 exact ⟨e1,s2,x',h1.paged p2,h2.trans g2⟩
theorem Y1c (C:Com W1 s q md m t x ks) {k:ByteArray} (hk:k∈ks):(0≤(Yd2 s m.M k).kind∧(Yd2 s m.M k).kind<256)∧(0≤(Yd2 s m.M k).next∧(Yd2 s m.M k).next<65536)∧(Yd2 s m.M k).key.size≤8∧(Yd2 s m.M k).old.size≤12∧(Yd2 s m.M k).new.size≤12:=
 ⟨by simp [Yd2],by simp [Yd2],C.ksz hk,Yrt (C.good.rise _ (Ycy k)).2.2 k,Ytc (C.made.cells t m C.mt).1 k⟩
theorem Com.enter (C:Com W1 s q md m t x ks) {i:Nat} (hi:i<ks.length) (h:Rd1 W1 s t x m.M ks i W):
 Calls prog 288 #[.pointer (some ⟨s.kb,0,none⟩),.int .i64 t,.agg (Yd2 s m.M ks[i]).cells] W fun r w'=>r=.returned (.tuple #[])∧Rd1 W1 s t x m.M ks (i+1) w':=by
 obtain ⟨s',x',h1,h2⟩:=h
 have hr:=C.room
 have hl:=h1.nums.1
 have he:=Y1c C (List.getElem_mem hi)
 have hx':s'.tx t=some x':=by rw [h1.tx];simp
 have hlx:=h1.last C.last
 have K:=Yki h2.lies h2.good (h1.held C.hx C.held) (by omega) t C.ht x' hx' (Yd2 s m.M ks[i]) ⟨he.1,C.ht,⟨by simp only;omega,by simp only;omega⟩,he.2.1,he.2.2.1,he.2.2.2.1,he.2.2.2.2⟩ (Yru _ _) (C.nrm _)
 rw [h1.same.1] at K
 refine K.mono ?_
 rintro r w' ⟨e1,v',g2,_⟩
 exact ⟨e1,_,_,by rw [Y1b _ _ _ _ _ _ hi];exact h1.enter _ v',h2.trans g2⟩
theorem Com.force (_C:Com W1 s q md m t x ks) (hne:ks≠[]) (h:∃ s' x' v',Ent s s' t x x' ks.length (Yft s m.M t x.last ks)∧Yab W1 W s (Ybr s' t x' Yge v')):
 Calls prog 287 #[.pointer (some ⟨s.kb,0,none⟩)] W fun r w'=>r=.returned (.tuple #[])∧Rd2 W1 s t x m.M ks (ks.length+1) 0 w':=by
 obtain ⟨s',x',v',h1,h2⟩:=h
 have h3:=h1.enter Yge v'
 have K:=Ynw h2.lies h2.good (by show s'.ws ++ [_]≠[];simp)
 rw [h3.same.1] at K
 refine K.mono ?_
 rintro r w' ⟨e1,g2⟩
 refine ⟨e1,synced (Ybr s' t x' Yge v'),{ x' with last:=s'.len+1 },⟨?_,h3.tx,⟨h3.nums.1,h3.nums.2.1,h3.nums.2.2.1,h3.nums.2.2.2,?_⟩,⟨h3.same.1,h3.same.2.1,h3.same.2.2.1,h3.same.2.2.2.1⟩,?_⟩,⟨h3.xH.1,h3.xH.2.1⟩,h2.trans g2⟩
 ·exact h3.cont
 ·have:=h3.same.2.2.2.2
  show (Ybr s' t x' Yge v').mc.n=s.mc.n+0;rw [this];rfl
 ·rw [Ygf,if_neg hne];exact h3.log
theorem Com.set (C:Com W1 s q md m t x ks) {i:Nat} (hi:i<ks.length) (h:Rd2 W1 s t x m.M ks (ks.length+1) i W):
 Calls prog 80 #[.pointer (some ⟨s.kb,2,none⟩),.string ks[i],.agg #[.bool (Yat m.M ks[i]).1,.string (Yat m.M ks[i]).2]] W fun r w'=>r=.returned (.tuple #[])∧Rd2 W1 s t x m.M ks (ks.length+1) (i+1) w':=by
 obtain ⟨s',x',h1,hH,h2⟩:=h
 have hk:ks[i]∈ks:=List.getElem_mem hi
 obtain ⟨f1,f2,f3⟩:=Ys9 (c:=s.cont) m.M (fun n hn=>(C.good.rise n hn).1) (ks.take i)
 have hmc:=C.good.mcn
 have hn:=h1.nums
 have hfit:(Yaw (s'.cont (Yae ks[i])) ks[i] (Yat m.M ks[i]).1 (Yat m.M ks[i]).2).length≤4:=by
  rw [h1.cont];obtain ⟨L,l1,l2⟩:=C.cap _ (Ycy ks[i]);have hnd:=Yja (Yfn (f1 _ (Ycy ks[i])) ks[i] (Yat m.M ks[i]).1 (Yat m.M ks[i]).2);rw [←List.length_map (f:=(·.1))];refine Nat.le_trans (hnd.length_le_of_subset fun k hk'=>?_) l1;obtain ⟨p,hp,rfl⟩:=List.mem_map.1 hk';have hheld:∀ k',k'∈ks→Yae k'=Yae ks[i]→k'∈L:=fun k' h3 h4=>l2 k' (.inr ⟨h4,t,x,C.hx,C.all k' h3⟩)
  rcases Yhk (f1 _ (Ycy ks[i])) _ _ _ hp with h3 | ⟨_,h3⟩
  ·rcases f2 _ (Ycy ks[i]) p h3 with h4 | ⟨h4,h5⟩
   ·exact l2 _ (.inl ⟨p,h4,rfl⟩)
   ·exact hheld _ (List.mem_of_mem_take h4) h5
  ·rw [h3];exact hheld _ hk rfl
 have K:=Ynt h2.lies h2.good ks[i] (C.ksz hk) (Yat m.M ks[i]).1 (Yat m.M ks[i]).2 (Ytc (C.made.cells t m C.mt).1 _) (by omega) hfit
 rw [h1.same.1,h1.cont] at K
 refine K.mono ?_
 rintro r w' ⟨e1,s1,p',hp,g2⟩
 obtain ⟨P,mm,rfl,hmm⟩:=hp
 refine ⟨e1,({ s' with pgs:=P,mp:=mm }:Sv).put (Yae ks[i]) p' (Yaw (Ydh s.cont m.M (ks.take i) (Yae ks[i])) ks[i] (Yat m.M ks[i]).1 (Yat m.M ks[i]).2),x',⟨?_,h1.tx,⟨hn.1,hn.2.1,hn.2.2.1,hn.2.2.2.1,?_⟩,h1.same,h1.log⟩,hH,h2.trans g2⟩
 ·rw [List.take_add_one,List.getElem?_eq_getElem hi]
  show (fun n=>if n=Yae ks[i] then Yaw (Ydh s.cont m.M (ks.take i) (Yae ks[i])) ks[i] (Yat m.M ks[i]).1 (Yat m.M ks[i]).2 else s'.cont n)=Ydh s.cont m.M (ks.take i ++ [ks[i]]);rw [Yoe,h1.cont];funext n;by_cases hb:n=Yae ks[i]
  ·simp only [hb,if_true]
  ·simp only [hb,if_false]
 ·show s'.mc.n+1=s.mc.n+(i+1)
  rw [hn.2.2.2.2];omega
theorem Com.fin (C:Com W1 s q md m t x ks) {n:Nat} (hn:n≤ks.length+1) (h:Rd2 W1 s t x m.M ks n ks.length W):
 Calls prog 284 #[.pointer (some ⟨s.kb,0,none⟩),.int .i64 t] W fun r w'=>r=.returned (.tuple #[])∧∃ s' md',Yfs s s' t (Ydh s.cont m.M ks) (ks.length+1) (Ygf s m.M t x.last ks)∧Ya7 s' md'∧Yab W1 w' s s'∧Yao s' q:=by
 obtain ⟨s',x',h1,hH,h2⟩:=h
 have ht:=C.ht
 have K:=Yny h2.lies h2.good (h1.held hH C.hx C.held) (h1.made C.made) t ⟨by omega,by omega⟩
 rw [h1.same.1] at K
 refine K.mono ?_
 rintro r w' ⟨e1,g2,k3,k4⟩
 refine ⟨e1,Ybv (Yb5 s' md t) t,_,⟨?_,?_,?_,⟨h1.nums.2.1,h1.nums.2.2.1,h1.same.1,h1.nums.2.2.2.1,?_,?_⟩,?_,h1.log⟩,k4,h2.trans g2,k3⟩
 ·rw [←List.take_length (l:=ks)];exact h1.cont
 ·funext u
  show (if u=t then none else s'.tx u)=_;by_cases hu:u=t
  ·rw [if_pos hu,if_pos hu]
  ·rw [if_neg hu,if_neg hu,h1.tx];simp [hu]
 ·funext u
  show (if u=t then none else s'.mt u)=_;rw [h1.same.2.2.2]
 ·show s'.mo.M.del _=_
  rw [h1.same.2.1]
 ·show s'.len≤_
  rw [h1.nums.1];omega
 ·show s.len≤s'.len
  rw [h1.nums.1];omega
end Go.Proofs.YtihbngfbcnojcaaGreat
