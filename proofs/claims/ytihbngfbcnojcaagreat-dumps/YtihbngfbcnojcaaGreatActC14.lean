import Derived.Test.YtihbngfbcnojcaaGreatActC13
set_option maxRecDepth 100000
set_option maxHeartbeats 8000000
namespace Go.Proofs.YtihbngfbcnojcaaGreat
open Go.RowKit Tryz
variable {t:Int} {ks:List ByteArray} {db kb q:Nat} {s:Sv} {x:TxE} {W W1 w w1:World} {m md:Ybh}
theorem Com.row {s':Sv} (_C:Com W1 s q md m t x ks) {g cap B:Nat} (hr:W1.ownsRow B 9 1 (.slice (some ⟨g,0,none⟩) ks.length cap) ks.length (ks.map Value.string)) (hn:∀ tag,s.blk tag≠some g) (h:Yab W1 W s s') (i:Nat) (hi:i<ks.length):W.cell? ⟨g,i,none⟩=some (.string ks[i]):=
 Yal (Yda hr (fun k hk=>by
  have:k=g:=by simpa [Value.ownBlock] using hk.symm
  subst this;exact h.off k (hr.lt k hk).2 hn)) (by simp [hi])
theorem Com.close (C:Com W1 s q md m t x ks) (h:Rd1 W1 s t x m.M ks ks.length W):
 Calls prog 288 #[.pointer (some ⟨s.kb,0,none⟩),.int .i64 t,.agg #[.int .i64 3,.int .i64 0,.int .i64 0,.int .i64 0,.string ByteArray.empty,.bool false,.string ByteArray.empty,.bool false,.string ByteArray.empty]] W fun r w'=>r=.returned (.tuple #[])∧∃ s' x' v',Ent s s' t x x' ks.length (Yft s m.M t x.last ks)∧Yab W1 w' s (Ybr s' t x' Yge v'):=by
 obtain ⟨s',x',h1,h2⟩:=h
 have hr:=C.room
 have hl:=h1.nums.1
 have hx':s'.tx t=some x':=by rw [h1.tx];simp
 have hlx:=h1.last C.last
 rw [List.take_length] at h1
 have K:=Yki h2.lies h2.good (h1.held C.hx C.held) (by omega) t C.ht x' hx' ⟨3,0,0,0,ByteArray.empty,false,ByteArray.empty,false,ByteArray.empty⟩ ⟨by simp,C.ht,⟨by simp only;omega,by simp only;omega⟩,by simp,by simp,by simp,by simp⟩ (fun _=>rfl) (fun _=>rfl)
 rw [h1.same.1] at K
 refine K.mono ?_
 rintro r w' ⟨e1,v',g2,_⟩
 exact ⟨e1,s',x',v',h1,h2.trans g2⟩
theorem Rd1.none {M:DataW Value} (hks:ks=[]) (h:Rd1 W1 s t x M ks 0 W):Rd2 W1 s t x M ks 0 0 W:=by
 obtain ⟨s',x',h1,h2⟩:=h;refine ⟨s',x',⟨h1.cont,h1.tx,⟨h1.nums.1,h1.nums.2.1,h1.nums.2.2.1,h1.nums.2.2.2,?_⟩,⟨h1.same.1,h1.same.2.1,h1.same.2.2.1,h1.same.2.2.2.1⟩,by rw [Ygf,if_pos hks];exact h1.log⟩,⟨h1.xH.1,h1.xH.2.1⟩,h2⟩;rw [h1.same.2.2.2.2];rfl
theorem Y1d (h:Yan w s) (g:Yar s) (hh:Yao s q) (hc:Cap s) (hm:Ya7 s md) (t:Int) (ht:0≤t∧t<256) (x:TxE) (hx:s.tx t=some x) (hlast:x.last≤s.len) (hmt:s.mt t=some m) (hall:∀ k,Maps.has m.M (lit k)=true→Ybc x.H k=2) (hroom:s.len+m.n+1≤391) (hnr:∀ k,(Yat m.M k).1=false→(Yat m.M k).2.size=0):
 Calls prog 275 #[.pointer (some ⟨s.kb,0,none⟩),.int .i64 t] w fun e w'=>e=.returned (.tuple #[])∧∃ ks s' md',Yfq m.M ks∧Yfs s s' t (Ydh s.cont m.M ks) (ks.length+1) (Ygf s m.M t x.last ks)∧Ya7 s' md'∧Yab w w' s s'∧Yao s' q:=by
 have hti:Yax t:=⟨by omega,by omega⟩
 have c8:=Yi7 h hm
 have hlk:=Y09 h hm t hti hmt
 have hM:Yap w 9 m.b m.n m.M:=h.comp (.madeOf t) m hmt
 have hmn:=(hm.cells t m hmt).2
 have hac:=g.ac
 have hsz:Maps.size m.M≤m.n:=World.ownsMap.size_le hM
 have KK:Hid (Calls prog 110 #[.map (some m.b)] w fun e w'=>e=.returned (.func (.func 156) #[] #[.pointer (some ⟨w.heap.size,0,none⟩)])∧w'=w.alloc (.cells #[.map (some m.b)] 138)):=Yoc _ w
 have KS:=Yh (Ys0 hM (by omega))
 have HC:Hid (∀ W1 ks,Below w.heap.size w W1→Yfq m.M ks→Com W1 s q md m t x ks):=fun W1 ks hW hk=>⟨h.below hW,g,hh,hc,hm,hmt,ht,hx,hlast,hk,fun k hk'=>hall k ((hk.mem k).1 hk'),by rw [hk.len];omega,hnr⟩
 have HP:Hid (∀ q',w.heap.size≤q'→∀ tag,s.blk tag≠some q'):=fun q' hq' tag ht'=>by have:=h.lt tag _ ht';omega
 have HG:Hid (∀ W1,Below w.heap.size w W1→Yab w W1 s s∧Yab W1 W1 s s):=fun W1 hW=>⟨Yab.of_below h g hW,Yab.refl (h.below hW) g⟩
 have HKB:Hid (∀ W1 W s',Yab W1 W s s'→s'.made=s.made→s'.kb=s.kb→W.cell? ⟨s.kb,8,none⟩=some (.map (some md.b))):=fun W1 W s' hW h1 h2=>by
  have e1:s'.cells[8]? = some (.map (some md.b)):=by unfold Sv.cells;rw [h1,hm.made];rfl
  rw [←h2];exact Yaa (hW.lies.comp .kind) e1
 generalize hkb:s.kb=kb at c8
 clear h g hh hc hm hM hall hnr
 go_enter func275,ntmps275
 go_wp2_with (first
  | (go_at_call 110;go_must (
   refine KK.out.mono ?_;rintro e w0 ⟨rfl,rfl⟩))
  | (go_at_call 109;go_must (
   refine KS.out.mono ?_;rintro e w1 ⟨v,ks,rfl,hks,hrow,hb1⟩;obtain ⟨p,cap,rfl,hmax⟩:=Ya6 hrow;have HKS:=Yh hks;have HROW:=Yh hrow;have HB1:=Yh hb1;have hkl:ks.length≤120:=by rw [hks.len];omega
   have HCM:Hid (Com w1 s q md m t x ks):=HC.out w1 ks hb1 hks;clear hks hrow hb1 hmax)))
 go_loopw [21] (fun i wr=>∃ k:Nat,k≤ks.length∧i=.int .i64 k∧Rd1 w1 s t x m.M ks k wr) (fun i _=>ks.length - (intOf i).toNat)
 case atStart=>exact ⟨0,by omega,rfl,s,x,Ent.refl hx,(HG.out w1 HB1.out).2⟩
 case round=>
  obtain ⟨k,hk,rfl,hrd⟩:=hrel;have HRD:=Yh hrd;clear hrd;by_cases hlt:k<ks.length
  ·have hlt':(k:Int)<(ks.length:Int):=by omega
   obtain ⟨gb,cap',he⟩:=Ybn HROW.out (by omega);simp only [Value.slice.injEq] at he;obtain ⟨rfl,-,rfl⟩:=he;have hgb:=(HROW.out.lt gb rfl).1;have c0:wr.cell? ⟨gb,k,none⟩=some (.string ks[k]):=by
    obtain ⟨s',x',_,h2⟩:=HRD.out;exact HCM.out.row HROW.out (HP.out gb hgb) h2 k hlt
   have hmem:ks[k]∈ks:=List.getElem_mem hlt;have KG:Hid (∀ W,Rd1 w1 s t x m.M ks k W→Calls prog 289 #[.pointer (some ⟨kb,2,none⟩),.string ks[k]] W fun e w'=>e=.returned (.agg #[.bool (Yag (s.cont (Yae ks[k])) ks[k]).1,.string (Yag (s.cont (Yae ks[k])) ks[k]).2])∧Rd1 w1 s t x m.M ks k w'):=fun W hW=>by rw [←hkb];exact HCM.out.get hmem hW
   have KE:Hid (∀ W,Rd1 w1 s t x m.M ks k W→Calls prog 288 #[.pointer (some ⟨kb,0,none⟩),.int .i64 t,.agg (Yd2 s m.M ks[k]).cells] W fun e w'=>e=.returned (.tuple #[])∧Rd1 w1 s t x m.M ks (k+1) w'):=fun W hW=>by rw [←hkb];exact HCM.out.enter hlt hW
   have HLK:Hid (∀ W i,Rd1 w1 s t x m.M ks i W→(Instr.lookup 138 (.map (some m.b)) (.string ks[k]) false).run prog W=.ok (.agg #[.bool (Yat m.M ks[k]).1,.string (Yat m.M ks[k]).2]) W):=fun W i ⟨s',x',h1,h2⟩=>HCM.out.look hmem h1.same.2.2.2.1 h2.lies
   have hl0:=HLK.out wr k HRD.out;have HDR:Hid (Rd1 w1 s t x m.M ks k wr.drew):=by obtain ⟨s',x',h1,h2⟩:=HRD.out;exact ⟨s',x',h1,h2.drew⟩
   have hl1:=HLK.out wr.drew k HDR.out;simp only [Yd2,Yac.cells] at KE;generalize Yag (s.cont (Yae ks[k])) ks[k]=un at KG KE;generalize Yat m.M ks[k]=cn at KE HLK hl0 hl1;generalize ks[k]=kk at c0 KG KE HLK hl0 hl1;obtain ⟨ui,us⟩:=un;obtain ⟨ci,cs⟩:=cn;simp only at KG KE HLK hl0 hl1;go_wp2;go_region_held3 (fun w'=>(Instr.lookup 138 (.map (some m.b)) (.string kk) false).run prog w'=.ok (.agg #[.bool ci,.string cs]) w')
    (go_keep)
    (first
     | (go_at_call 289;go_must (
      refine (KG.out _ HDR.out).mono ?_;rintro e w2 ⟨rfl,hr2⟩;have HR2:=Yh hr2;have hl2:=HLK.out w2 k hr2;clear hr2))
     | (go_at_call 288;go_must (
      refine (KE.out _ HR2.out).mono ?_;rintro e w3 ⟨rfl,hr3⟩;have HR3:=Yh hr3;have hl3:=HLK.out w3 (k+1) hr3;clear hr3)))
   all_goals
    go_wp2;exact ⟨⟨k+1,by omega,by simp,HR3.out⟩,by simp [intOf];omega⟩
  ·obtain rfl:k=ks.length:=by omega
   have KC:Hid (Calls prog 288 #[.pointer (some ⟨kb,0,none⟩),.int .i64 t,.agg #[.int .i64 3,.int .i64 0,.int .i64 0,.int .i64 0,.string ByteArray.empty,.bool false,.string ByteArray.empty,.bool false,.string ByteArray.empty]] wr fun r w'=>r=.returned (.tuple #[])∧∃ s' x' v',Ent s s' t x x' ks.length (Yft s m.M t x.last ks)∧Yab w1 w' s (Ybr s' t x' Yge v')):=by rw [←hkb];exact HCM.out.close HRD.out
   have KF:Hid (∀ W,ks≠[]∧(∃ s' x' v',Ent s s' t x x' ks.length (Yft s m.M t x.last ks)∧Yab w1 W s (Ybr s' t x' Yge v'))→Calls prog 287 #[.pointer (some ⟨kb,0,none⟩)] W fun r w'=>r=.returned (.tuple #[])∧Rd2 w1 s t x m.M ks (ks.length+1) 0 w'):=fun W hW=>by rw [←hkb];exact HCM.out.force hW.1 hW.2
   have KZ:Hid (∀ W n,n≤ks.length+1→Rd2 w1 s t x m.M ks n ks.length W→Calls prog 284 #[.pointer (some ⟨kb,0,none⟩),.int .i64 t] W fun r w'=>r=.returned (.tuple #[])∧∃ s' md',Yfs s s' t (Ydh s.cont m.M ks) (ks.length+1) (Ygf s m.M t x.last ks)∧Ya7 s' md'∧Yab w1 w' s s'∧Yao s' q):=fun W n hn hW=>by rw [←hkb];exact HCM.out.fin hn hW
   have HFIN:Hid (∀ w',(∃ s' md',Yfs s s' t (Ydh s.cont m.M ks) (ks.length+1) (Ygf s m.M t x.last ks)∧Ya7 s' md'∧Yab w1 w' s s'∧Yao s' q)→∃ ks s' md',Yfq m.M ks∧Yfs s s' t (Ydh s.cont m.M ks) (ks.length+1) (Ygf s m.M t x.last ks)∧Ya7 s' md'∧Yab w w' s s'∧Yao s' q):=fun w' ⟨s',md',h1,h2,h3,h4⟩=>⟨ks,s',md',HKS.out,h1,h2,(HG.out w1 HB1.out).1.trans h3,h4⟩
   by_cases h0:ks.length=0
   ·have HR0:Hid (Rd2 w1 s t x m.M ks 0 ks.length wr):=by
     have:=HRD.out;rw [h0] at this ⊢;exact Rd1.none (List.length_eq_zero_iff.1 h0) this
    have h0':(ks.length:Int)=0:=by omega
    have hgt:¬(0:Int)<(ks.length:Int):=by omega
    clear KC KF;go_wp2;go_loopw [58] (fun i w2=>i=.int .i64 0∧w2=wr) (fun _ _=>0)
    case atStart=>exact ⟨rfl,rfl⟩
    case round=>
     obtain ⟨rfl,rfl⟩:=hrel;go_wp2_with (first
      | (go_at_call 284;go_must (
       refine (KZ.out _ 0 (by omega) HR0.out).mono ?_;rintro e w3 ⟨rfl,hp⟩;have HX:=Yh (HFIN.out w3 hp);clear hp)))
     go_end0;exact ⟨rfl,HX.out⟩
   ·have hgt:(0:Int)<(ks.length:Int):=by omega
    go_wp2_with (first
     | (go_at_call 288;go_must (
      refine KC.out.mono ?_;rintro e w2 ⟨rfl,hr2⟩;have HR2:=Yh hr2;clear hr2))
     | (go_at_call 287;go_must (
      refine (KF.out w2 ⟨(fun e=>h0 (by rw [e];rfl)),HR2.out⟩).mono ?_;rintro e w3 ⟨rfl,hr3⟩;have HR3:=Yh hr3;clear hr3)))
    clear KC KF;go_loopw [58] (fun i wz=>∃ k:Nat,k≤ks.length∧i=.int .i64 k∧Rd2 w1 s t x m.M ks (ks.length+1) k wz) (fun i _=>ks.length - (intOf i).toNat)
    case atStart=>exact ⟨0,by omega,rfl,HR3.out⟩
    case round=>
     obtain ⟨k,hk,rfl,hrd⟩:=hrel;have HRZ:=Yh hrd;clear hrd;by_cases hlt:k<ks.length
     ·have hlt':(k:Int)<(ks.length:Int):=by omega
      obtain ⟨gb,cap',he⟩:=Ybn HROW.out (by omega);simp only [Value.slice.injEq] at he;obtain ⟨rfl,-,rfl⟩:=he;have hgb:=(HROW.out.lt gb rfl).1;have c0:wr.cell? ⟨gb,k,none⟩=some (.string ks[k]):=by
       obtain ⟨s',x',_,_,h2⟩:=HRZ.out;exact HCM.out.row HROW.out (HP.out gb hgb) h2 k hlt
      have hmem:ks[k]∈ks:=List.getElem_mem hlt;have HDR:Hid (Rd2 w1 s t x m.M ks (ks.length+1) k wr.drew):=by obtain ⟨s',x',h1,h2,h3⟩:=HRZ.out;exact ⟨s',x',h1,h2,h3.drew⟩
      have KS2:Hid (Calls prog 80 #[.pointer (some ⟨kb,2,none⟩),.string ks[k],.agg #[.bool (Yat m.M ks[k]).1,.string (Yat m.M ks[k]).2]] wr.drew fun e w'=>e=.returned (.tuple #[])∧Rd2 w1 s t x m.M ks (ks.length+1) (k+1) w'):=by rw [←hkb];exact HCM.out.set hlt HDR.out
      have HLK:Hid (∀ W i,Rd2 w1 s t x m.M ks (ks.length+1) i W→(Instr.lookup 138 (.map (some m.b)) (.string ks[k]) false).run prog W=.ok (.agg #[.bool (Yat m.M ks[k]).1,.string (Yat m.M ks[k]).2]) W):=fun W i ⟨s',x',h1,_,h2⟩=>HCM.out.look hmem h1.same.2.2.2 h2.lies
      have hl0:=HLK.out wr k HRZ.out;have hl1:=HLK.out wr.drew k HDR.out;generalize Yat m.M ks[k]=cn at KS2 HLK hl0 hl1;generalize ks[k]=kk at c0 KS2 HLK hl0 hl1;obtain ⟨ci,cs⟩:=cn;simp only at KS2 HLK hl0 hl1;go_wp2;go_region_held3 (fun w'=>(Instr.lookup 138 (.map (some m.b)) (.string kk) false).run prog w'=.ok (.agg #[.bool ci,.string cs]) w')
       (go_keep)
       (first
        | (go_at_call 80;go_must (
         refine KS2.out.mono ?_;rintro e w5 ⟨rfl,hr5⟩;have HR5:=Yh hr5;have hl5:=HLK.out w5 (k+1) hr5;clear hr5)))
      all_goals
       go_wp2;exact ⟨⟨k+1,by omega,by simp,HR5.out⟩,by simp [intOf];omega⟩
     ·obtain rfl:k=ks.length:=by omega
      go_wp2_with (first
       | (go_at_call 284;go_must (
        refine (KZ.out _ _ (Nat.le_refl _) HRZ.out).mono ?_;rintro e w6 ⟨rfl,hp⟩;have HX:=Yh (HFIN.out w6 hp);clear hp)))
      go_end0;exact ⟨rfl,HX.out⟩
def isZ:Value→Bool
 | .int .u8 0=>true
 | _=>false
theorem Y1e {v:Value} (h:isZ v=true):v=.int .u8 0:=by
 unfold isZ at h;split at h
 ·rfl
 ·cases h
theorem Y1f:(Tryz.zeroCells103.toList.take 27776).all isZ=true:=by kernel_rfl
theorem Ytd (i:Nat) (h:i<27776):Tryz.zeroCells103[i]? = some (.int .u8 0):=by
 have hz:=Yn1;have h1:i<Tryz.zeroCells103.size:=by omega
 have h2:=List.all_eq_true.1 Y1f;have h3:(Tryz.zeroCells103.toList.take 27776)[i]? = Tryz.zeroCells103[i]?:=by rw [List.getElem?_take,if_pos h,Array.getElem?_toList]
 have h4:Tryz.zeroCells103[i]? = some Tryz.zeroCells103[i]:=Array.getElem?_eq_getElem h1;rw [h4] at h3 ⊢;rw [Y1e (h2 _ (List.mem_of_getElem? h3))]
structure Yhm (D:Array Value):Prop where
 size:D.size=27779
 dv:D[27776]? = some (.slice none 0 0)
 fuse:D[27777]? = some (.int .i64 0)
 byte:∀ i u,i<27776→D[i]? = some u→Ycm u
 zero:∀ i,128≤i→i<27776→D[i]? = some (.int .u8 0)
theorem Yte (mode:Int):(Yam 1 1 (Yem 1 mode)).length=64:=Yeh _ _ _ (by simp [Yem,Yeq])
theorem Y1g (mode:Int) (Z:Array Value) (hz:Z.size=27779) (hf:Z[27777]? = some (.int .i64 0)) (ha:∀ i,i<27776→Z[i]? = some (.int .u8 0)):Yhm ((Ych Z 64 (Yam 1 1 (Yem 1 mode))).setIfInBounds 27776 (.slice none 0 0)) where
 size:=by rw [Array.size_setIfInBounds,Yir];exact hz
 dv:=Array.getElem?_setIfInBounds_self_of_lt (by rw [Yir,hz];omega)
 fuse:=by
  rw [Array.getElem?_setIfInBounds_ne (by omega),Yf2,if_neg (by rw [Yte];omega)];exact hf
 byte:=fun i u h hu=>by
  rw [Array.getElem?_setIfInBounds_ne (by omega),Yf2] at hu;split at hu
  ·exact Ylr _ _ _ (fun u hu=>by rcases List.mem_append.1 hu with h | h <;> exact Ygo _ _ u h) u (List.mem_of_getElem? hu)
  ·rw [ha i h] at hu
   simp only [Option.some.injEq] at hu;subst hu;exact ⟨0,rfl,by omega⟩
 zero:=fun i h h'=>by
  rw [Array.getElem?_setIfInBounds_ne (by omega),Yf2,if_neg (by rw [Yte];omega)];exact ha i h'
theorem Yhm.read {D:Array Value} (hD:Yhm D) (a:Nat) (h:2≤a) (h':a<434):Yay D [] a=List.replicate 64 (.int .u8 0):=by
 unfold Yay;simp only [List.reverse_nil,List.find?_nil];apply List.ext_getElem?;intro i;rw [Array.getElem?_toList,Array.getElem?_extract,hD.size];by_cases hi:i<64
 ·rw [if_pos (by omega),hD.zero _ (by omega) (by omega),List.getElem?_replicate,if_pos hi]
 ·rw [if_neg (by omega),List.getElem?_replicate,if_neg hi]
def Yd3:Ybq:=⟨0,0,ByteArray.empty,ByteArray.empty,ByteArray.empty,ByteArray.empty,ByteArray.empty,ByteArray.empty,ByteArray.empty,ByteArray.empty⟩
theorem Y1h:Yam 0 0 (Ybz ByteArray.empty ByteArray.empty ByteArray.empty ByteArray.empty)=List.replicate 64 (.int .u8 0):=by kernel_rfl
theorem Yhm.page {D:Array Value} (hD:Yhm D) (n:Nat) (hn:n<8):Ykc D [] n Yd3 Yd3:=by
 have hf:Yd3.Fits:=⟨by simp [Yd3],by simp [Yd3],by simp [Yd3],by simp [Yd3],by simp [Yd3],by simp [Yd3],by simp [Yd3],by simp [Yd3],by simp [Yd3]⟩;have hr:∀ a,2≤a→a<434→Yay D [] a=Yam 0 0 (Ybz ByteArray.empty ByteArray.empty ByteArray.empty ByteArray.empty):=fun a h1 h2=>by rw [hD.read a h1 h2,Y1h]
 exact ⟨⟨hr _ (by omega) (by omega),hr _ (by omega) (by omega)⟩,⟨hr _ (by omega) (by omega),hr _ (by omega) (by omega)⟩,hf,hf⟩
def Ygg:Yac:=⟨0,0,0,0,ByteArray.empty,false,ByteArray.empty,false,ByteArray.empty⟩
theorem Y1i:Yam 0 0 Ygg.body=List.replicate 64 (.int .u8 0):=by kernel_rfl
theorem Y1j {D:Array Value} {ws:List (Nat×List Value)} {i:Nat} (h:Yay D ws (34+i)=List.replicate 64 (.int .u8 0)):Yf6 D ws i 0 0 Ygg:=
 ⟨by rw [Y1i];exact h,by omega,by omega,by omega,by omega,⟨by simp [Ygg],by simp [Ygg],by simp [Ygg],by simp [Ygg],by simp [Ygg],by simp [Ygg],by simp [Ygg]⟩,fun _=>rfl,fun _=>rfl⟩
def Ycr (D:Array Value) (ty:TypeId) (kb vb db mp mc mo:Nat) (made:Option Ybh):Sv:=
 { kb:=kb,vb:=vb,db:=db,ty:=ty,start:=1,count:=1,turn:=1,len:=0,begun:=0,acts:=0,D:=D,ws:=[],v:=.slice none 0 0,mp:=⟨mp,0,.map []⟩,mc:=⟨mc,0,.map []⟩,mo:=⟨mo,0,.map []⟩,made:=made,pgs:=fun _=>none,cont:=fun _=>[],tx:=fun _=>none,mt:=fun _=>none,log:=[],cp:=fun _=>(Yd3,Yd3) }
theorem Y1k {D:Array Value} (hD:Yhm D) (ty:TypeId) (kb vb db mp mc mo:Nat) (made:Option Ybh):Yar (Ycr D ty kb vb db mp mc mo made):=
 {
  dsz:=hD.size,dv:=hD.dv,fuse:=hD.fuse
  ok:=fun p hp=>(List.not_mem_nil hp).elim
  wn:=Nat.zero_le _
  ln:=Nat.zero_le _
  db:=hD.byte
  wb:=fun p hp=>(List.not_mem_nil hp).elim
  have':=fun n p _ h=>by cases h
  lack:=fun n _ _ zd=>Maps.atKey_of_not_has (by simp [Ycr,Maps.has_eq]) zd
  room:=by simp [Ycr,Yfl]
  load:=fun n hn=>⟨hD.page n hn,(fun p hp=>by cases hp),fun _=>by kernel_rfl,(fun hc=>by simp [Sv.chg,Ycr,Maps.has_eq] at hc),.inl (by simp [Ycr,Yd3]),.inl (by simp [Ycr,Yd3])⟩
  chk:=fun kl hkl=>by simp [Ycr,Maps.has_eq] at hkl
  logd:=⟨rfl,fun i hi=>(Nat.not_lt_zero i hi).elim,fun i _ hi4=>⟨0,0,Ygg,Y1j (hD.read _ (by omega) (by omega)),by simp [Ycr]⟩⟩
  wl:=⟨0,Nat.le_refl _,rfl⟩
  rise:=fun n _=>⟨fun i j hi=>(Nat.not_lt_zero i hi).elim,Nat.zero_le _,fun p hp=>(List.not_mem_nil hp).elim⟩
  st:=⟨by simp [Ycr],by simp [Ycr]⟩
  ct:=⟨by simp [Ycr],by simp [Ycr]⟩
  ac:=Nat.zero_le _
  mon:=Nat.le_refl _
  mcn:=Nat.le_refl _
  isOpen:=fun t x h=>by cases h
  notOpen:=fun t _ zd=>Maps.atKey_of_not_has (by simp [Ycr,Maps.has_eq]) zd }
theorem Ytf (p:Option Addr) (w:World):
 Calls prog 147 #[.pointer p] w fun e w'=>e=.returned (.agg #[.pointer p,.int .i64 0,.pointer p,.map (some (w.heap.size+1+1)),
  .map (some (w.heap.size+1+1+1)),.map (some (w.heap.size+1+1+1+1)),.int .i64 0,.int .i64 0]) ∧
  Below w.heap.size w w'∧w'.heap.size=w.heap.size+5∧w'.heap[w.heap.size+1+1]? = some (.map #[] 0)∧w'.heap[w.heap.size+1+1+1]? = some (.map #[] 0)∧w'.heap[w.heap.size+1+1+1+1]? = some (.map #[] 0):=by
 have hmm:=@run_makeMap prog
 go_enter func147,ntmps147
 go_wp2_with (first | (go_at_call 77;refine (Yyq _ _).mono ?_;rintro e w' ⟨rfl,rfl⟩))
 refine bodyPost_ret (v:=.agg #[.pointer p,.int .i64 0,.pointer p,.map (some (w.heap.size+1+1)),
  .map (some (w.heap.size+1+1+1)),.map (some (w.heap.size+1+1+1+1)),.int .i64 0,.int .i64 0]) (by simp [results,Tryz.results147,go_sem]) rfl ⟨rfl,?_,?_,?_,?_,?_⟩
 ·exact (((((Below.refl _ _).alloc (Nat.le_refl _) _).alloc (by simp) _).alloc (by simp;omega) _).alloc (by simp;omega) _).alloc (by simp;omega) _
 ·simp
 ·rw [Below.heap_alloc _ _ _ (by simp),Below.heap_alloc _ _ _ (by simp)]
  show (Array.push _ _)[_]? = _;rw [Array.getElem?_push,if_pos (by simp)]
 ·rw [Below.heap_alloc _ _ _ (by simp)]
  show (Array.push _ _)[_]? = _;rw [Array.getElem?_push,if_pos (by simp)]
 ·show (Array.push _ _)[_]? = _
  rw [Array.getElem?_push,if_pos (by simp)]
structure Yjf (w':World) (N:Nat) (vb:Nat) (k:Bool) (kb:Nat):Prop where
 mp:w'.heap[N+2]? = some (.map #[] 0)
 mc:w'.heap[N+3]? = some (.map #[] 0)
 mo:w'.heap[N+4]? = some (.map #[] 0)
 md:k=false→w'.heap[N+5]? = some (.map #[] 0)
 place:kb=if k then N+5 else N+6
 kind:w'.heap[kb]? = some (.cells (#[.pointer (some ⟨vb,0,none⟩),.int .i64 0,.pointer (some ⟨vb,0,none⟩),.map (some (N+2)),.map (some (N+3)),.map (some (N+4)),.int .i64 0,.int .i64 0] ++ (if k then #[] else #[.map (some (N+5))])) (if k then 236 else 233) (0,0))
theorem Y1l (vb:Nat) (w:World):
 Calls prog 102 #[.int .i64 0,.pointer (some ⟨vb,0,none⟩)] w fun e w'=>e=.returned (.iface 234 (.pointer (some ⟨w.heap.size+5,0,none⟩)))∧Below w.heap.size w w'∧Yjf w' w.heap.size vb true (w.heap.size+5):=by
 have hmm:=@run_makeMap prog
 go_enter func102,ntmps102
 go_wp2_with (first | (go_at_call 147;refine (Ytf _ _).mono ?_;rintro e w' ⟨rfl,hb,hs,h1,h2,h3⟩))
 go_ret
 refine ⟨rfl,hb.alloc (by omega) _,⟨?_,?_,?_,(fun h=>by cases h),rfl,?_⟩⟩
 ·rw [Below.heap_alloc _ _ _ (by omega)];exact h1
 ·rw [Below.heap_alloc _ _ _ (by omega)];exact h2
 ·rw [Below.heap_alloc _ _ _ (by omega)];exact h3
 ·show (Array.push _ _)[_]? = _
  rw [Array.getElem?_push,if_pos (by omega)];rfl
theorem Y1m (vb:Nat) (w:World):
 Calls prog 102 #[.int .i64 1,.pointer (some ⟨vb,0,none⟩)] w fun e w'=>e=.returned (.iface 224 (.pointer (some ⟨w.heap.size+6,0,none⟩)))∧Below w.heap.size w w'∧Yjf w' w.heap.size vb false (w.heap.size+6):=by
 have hmm:=@run_makeMap prog
 go_enter func102,ntmps102
 go_wp2_with (first | (go_at_call 147;refine (Ytf _ _).mono ?_;rintro e w' ⟨rfl,hb,hs,h1,h2,h3⟩))
 go_ret
 refine ⟨rfl,(hb.alloc (by omega) _).alloc (by simp;omega) _,⟨?_,?_,?_,fun _=>?_,rfl,?_⟩⟩
 ·rw [Below.heap_alloc _ _ _ (by simp;omega),Below.heap_alloc _ _ _ (by omega)];exact h1
 ·rw [Below.heap_alloc _ _ _ (by simp;omega),Below.heap_alloc _ _ _ (by omega)];exact h2
 ·rw [Below.heap_alloc _ _ _ (by simp;omega),Below.heap_alloc _ _ _ (by omega)];exact h3
 ·rw [Below.heap_alloc _ _ _ (by simp;omega)]
  show (Array.push _ _)[_]? = _;rw [Array.getElem?_push,if_pos (by omega)]
 ·show (Array.push _ _)[_]? = _
  rw [Array.getElem?_push,if_pos (by simp;omega)];rfl
theorem Y1n {D:Array Value} {N vb:Nat} (k:Bool) (hk:Yjf w N vb k kb) (hv:w.heap[vb]? = some (.cells (Ybl db 1 1 1) 126 (0,0))) (hd:w.heap[db]? = some (.cells D 103 (0,0))) (h1:db<vb) (h2:vb<N):
 Yan w (Ycr D (if k then 236 else 233) kb vb db (N+2) (N+3) (N+4) (if k then none else some ⟨N+5,0,.map []⟩)):=by
 have hp:=hk.place
 refine ⟨fun tag=>?_,fun a b q ha hb=>?_,fun tag q hq=>?_⟩
 ·cases tag using Tag.elim with
  | kind=>
   refine hk.kind.trans ?_
   cases k <;> rfl
  | vol=>exact hv
  | disk=>exact hd
  | uns=>exact World.ownsRow_nil _ _ _ _
  | mp=>exact Ykf hk.mp
  | mc=>exact Ykf hk.mc
  | mo=>exact Ykf hk.mo
  | made=>
   intro m hm
   cases k with
   | true=>cases hm
   | false=>
    simp [Ycr] at hm;subst hm;exact Ykf (hk.md rfl)
  | page n=>intro p hp';cases hp'
  | row n=>intro p hp';cases hp'
  | tx t=>intro p hp';cases hp'
  | held t=>intro p hp';cases hp'
  | madeOf t=>intro p hp';cases hp'
 ·cases k
  ·simp only [Bool.false_eq_true,if_false] at hp
   subst hp
   cases a using Tag.elim <;> simp [Ycr,Value.ownBlock] at ha <;> cases b using Tag.elim <;> simp [Ycr,Value.ownBlock] at hb <;> first | rfl | omega
  ·simp only [if_true] at hp
   subst hp
   cases a using Tag.elim <;> simp [Ycr,Value.ownBlock] at ha <;> cases b using Tag.elim <;> simp [Ycr,Value.ownBlock] at hb <;> first | rfl | omega
 ·have l1:=Yaj hk.kind
  have l2:=Yaj hk.mo;have l3:=Yaj hk.mp;have l4:=Yaj hk.mc;have l5:=Yaj hv;have l6:=Yaj hd
  cases k
  ·have l7:=Yaj (hk.md rfl)
   cases tag using Tag.elim <;> simp [Ycr,Value.ownBlock] at hq <;> omega
  ·cases tag using Tag.elim <;> simp [Ycr,Value.ownBlock] at hq <;> omega
structure Yfc (w w':World) (db:Nat) (k:Bool) (kb:Nat):Prop where
 ex:∃ D vb mp mc mo made,Yhm D∧Yan w' (Ycr D (if k then 236 else 233) kb vb db mp mc mo made)∧(if k then made=none else ∃ m,made=some ⟨m,0,.map []⟩)∧∀ tag q,(Ycr D (if k then 236 else 233) kb vb db mp mc mo made).blk tag=some q→q=db∨w.heap.size≤q
 off:∀ q,q<w.heap.size→q≠db→w'.heap[q]? = w.heap[q]?
 below:Below 0 w w'
theorem Ytg {w2:World} {D:Array Value} (k:Bool) (mode:Int) (hz:D.size=27779) (hf:D[27777]? = some (.int .i64 0)) (ha:∀ i,i<27776→D[i]? = some (.int .u8 0)) (hdb:db<w.heap.size)
 (hv1:w1.heap[w.heap.size]? = some (.cells (Ybl db 1 (0+1) (1 - 0)) 126 (0,0))) (hd1:w1.heap[db]? = some (.cells ((Ych D ((1 - 0:Int).toNat*64) (Yam 1 (0+1) (Yem 1 mode))).setIfInBounds 27776 (.slice none 0 0)) 103 (0,0)))
 (ho:∀ q,q<(w.alloc (.cells (Ybl db 1 0 0) 126)).heap.size→q≠w.heap.size→q≠db→w1.heap[q]? = (w.alloc (.cells (Ybl db 1 0 0) 126)).heap[q]?) (hb1:Below 0 (w.alloc (.cells (Ybl db 1 0 0) 126)) w1)
 (hb2:Below w1.heap.size w1 w2) (hk:Yjf w2 w1.heap.size w.heap.size k kb):Yfc w w2 db k kb:=by
 have hs1:w.heap.size<w1.heap.size:=Yaj hv1
 have hp:=hk.place
 refine ⟨⟨_,w.heap.size,_,_,_,_,Y1g mode D hz hf ha,Y1n k hk ((hb2.block _ hs1).trans hv1) ((hb2.block _ (by omega)).trans hd1) hdb hs1,?_,?_⟩,fun q h1 h2=>?_,((Below.refl _ w).alloc (Nat.zero_le _) _).trans (hb1.trans (hb2.mono (Nat.zero_le _)))⟩
 ·cases k
  ·exact ⟨_,rfl⟩
  ·rfl
 ·intro tag q hq
  cases k
  ·simp only [Bool.false_eq_true,if_false] at hp
   cases tag using Tag.elim <;> simp [Ycr,Value.ownBlock] at hq <;> omega
  ·simp only [if_true] at hp
   cases tag using Tag.elim <;> simp [Ycr,Value.ownBlock] at hq <;> omega
 ·rw [hb2.block q (by omega),ho q (by simp;omega) (by omega) h2]
  exact Below.heap_alloc _ _ _ h1
structure Yhn (w w':World) (a:Nat) (k:Bool) (s:Sv):Prop where
 live:Yc5 w' a (Yb8 k) s 0
 plain:∃ D ty kb vb db mp mc mo made,Yhm D∧s=Ycr D ty kb vb db mp mc mo made∧(if k then made=none else ∃ m,made=some ⟨m,0,.map []⟩)
 new:w.heap.size≤a∧∀ tag q,s.blk tag=some q→w.heap.size≤q
theorem Yth (D:Array Value) (ty:TypeId) (kb vb db mp mc mo:Nat) (made:Option Ybh):Yao (Ycr D ty kb vb db mp mc mo made) 0∧Cap (Ycr D ty kb vb db mp mc mo made):=by
 refine ⟨(fun t x h=>by cases h),fun n _=>⟨[],Nat.zero_le _,fun k hk=>?_⟩⟩;rcases hk with ⟨p,hp,_⟩ | ⟨_,t,x,hx,_⟩
 ·cases hp
 ·cases hx
theorem Yti {o o':Obj} {x0 x1:Value} (k:Bool) (h:Yfc (w.alloc o) w1 w.heap.size k kb) (ho:o'=.cells #[x0,x1,.iface (Yb8 k) (.pointer (some ⟨kb,0,none⟩))] 90):
 ∃ s,Below w.heap.size w (w1.alloc o')∧Yhn w (w1.alloc o') w1.heap.size k s:=by
 obtain ⟨⟨D,vb,mp,mc,mo,made,h1,h2,h3,h4⟩,h5,h6⟩:=h
 have hs:=h6.size
 simp at hs
 have hb:Below w.heap.size w w1:=⟨h6.os,h6.tape,h6.output,by omega,fun q hq=>(h5 q (by simp;omega) (by omega)).trans (Below.heap_alloc _ _ _ hq)⟩
 have hb1:Below w1.heap.size w1 (w1.alloc o'):=(Below.refl _ w1).alloc (Nat.le_refl _) _
 refine ⟨_,hb.trans (hb1.mono (by omega)),⟨h2.below hb1,Y1k h1 _ _ _ _ _ _ _ _,(Yth D _ _ _ _ _ _ _ _).1,(Yth D _ _ _ _ _ _ _ _).2,by simp,fun tag ht=>?_,?_⟩,⟨D,_,_,_,_,_,_,_,_,h1,rfl,h3⟩,by omega,fun tag q hq=>?_⟩
 ·have:=h2.lt tag _ ht;omega
 ·rw [ho];exact Yaa (j:=2) (heap_alloc_new w1 _) rfl
 ·rcases h4 tag q hq with e | e
  ·omega
  ·simp at e;omega
theorem Y1o (db:Nat) (D:Array Value) (w:World) (hD:w.heap[db]? = some (.cells D 103 (0,0))) (hDz:D.size=27779) (hDv:D[27776]? = some (.slice none 0 0)) (hDf:D[27777]? = some (.int .i64 0)) (ha:∀ i,i<27776→D[i]? = some (.int .u8 0)):
 Calls prog 67 #[.int .i64 0,.pointer (some ⟨db,0,none⟩)] w fun e w'=>∃ kb,e=.returned (.iface 234 (.pointer (some ⟨kb,0,none⟩)))∧Yfc w w' db true kb:=by
 have hdw:db<w.heap.size:=Yaj hD
 have KS:Hid (Calls prog 82 #[.int .i64 0,.pointer (some ⟨w.heap.size,0,none⟩)] (w.alloc (.cells (Ybl db 1 0 0) 126)) fun e w'=>∃ kb,e=.returned (.iface 234 (.pointer (some ⟨kb,0,none⟩)))∧Yfc w w' db true kb):=by
  have hv:(w.alloc (.cells (Ybl db 1 0 0) 126)).heap[w.heap.size]? = some (.cells (Ybl db 1 0 0) 126 (0,0)):=heap_alloc_new w _;have hd:(w.alloc (.cells (Ybl db 1 0 0) 126)).heap[db]? = some (.cells D 103 (0,0)):=(Below.heap_alloc _ _ _ hdw).trans hD;have c1:(w.alloc (.cells (Ybl db 1 0 0) 126)).cell? ⟨w.heap.size,1,none⟩=some (.int .u32 1):=Yaa hv rfl;have KM:=Yh (Yq4 w.heap.size db 1 0 0 1 0 D (w.alloc (.cells (Ybl db 1 0 0) 126)) (by omega) (by omega) (by omega) (by omega) (by omega) (by omega) (by omega) (by omega) (by omega) (by omega) (by omega) hv hd hDz hDv hDf);have HF:Hid (∀ w1 w2,w1.heap[w.heap.size]? = some (.cells (Ybl db 1 (0+1) (1 - 0)) 126 (0,0))→w1.heap[db]? = some (.cells ((Ych D ((1 - 0:Int).toNat*64) (Yam 1 (0+1) (Yem 1 0))).setIfInBounds 27776 (.slice none 0 0)) 103 (0,0))→(∀ q,q<(w.alloc (.cells (Ybl db 1 0 0) 126)).heap.size→q≠w.heap.size→q≠db→w1.heap[q]? = (w.alloc (.cells (Ybl db 1 0 0) 126)).heap[q]?)→Below 0 (w.alloc (.cells (Ybl db 1 0 0) 126)) w1→Below w1.heap.size w1 w2→Yjf w2 w1.heap.size w.heap.size true (w1.heap.size+5)→Yfc w w2 db true (w1.heap.size+5)):=fun w1 w2 a1 a2 a3 a4 a5 a6=>Ytg true 0 hDz hDf ha hdw a1 a2 a3 a4 a5 a6
  clear hv hd;generalize hW:w.alloc (.cells (Ybl db 1 0 0) 126)=W at KM c1 HF ⊢;clear hD hDz hDv hDf ha hW;go_enter func82,ntmps82;go_wp2_with (first
   | (go_at_call 85;go_must (
    refine KM.out.mono ?_;rintro e w1 ⟨rfl,hv1,hd1,ho1,hb1⟩;have H1:=Yh (And.intro hv1 (And.intro hd1 (And.intro ho1 hb1)));clear hv1 hd1 ho1 hb1))
   | (go_at_call 102;go_must (
    refine (Y1l _ _).mono ?_;rintro e w2 ⟨rfl,hb2,hk2⟩;have H2:=Yh (HF.out w1 w2 H1.out.1 H1.out.2.1 H1.out.2.2.1 H1.out.2.2.2 hb2 hk2);clear hb2 hk2)))
  go_ret;exact ⟨_,rfl,H2.out⟩
 clear hD hDz hDv hDf ha
 generalize Yfc w=WN at KS ⊢
 go_enter func67,ntmps67
 go_wp2_with (first
  | (go_at_call 76;go_must (
   refine (Yr1 db w).mono ?_;rintro e w0 ⟨rfl,rfl⟩))
  | (go_at_call 82;go_must (
   refine KS.out.mono ?_;rintro e w1 ⟨kb,rfl,h1⟩;have H1:=Yh h1;clear h1)))
 go_ret
 exact ⟨_,rfl,H1.out⟩
theorem Ytj (w:World):
 Calls prog 40 #[.int .i64 0] w fun e w'=>∃ a s,e=.returned (.tuple #[.pointer (some ⟨a,0,none⟩),.int .i64 0])∧Below w.heap.size w w'∧Yhn w w' a true s:=by
 have KN:Hid (∀ Z:Array Value,Z.size=27779→Z[27776]? = some (.slice none 0 0)→Z[27777]? = some (.int .i64 0)→(∀ i,i<27776→Z[i]? = some (.int .u8 0))→Calls prog 67 #[.int .i64 0,.pointer (some ⟨w.heap.size,0,none⟩)] (w.alloc (.cells Z 103)) fun e w'=>∃ kb,e=.returned (.iface 234 (.pointer (some ⟨kb,0,none⟩)))∧Yfc (w.alloc (.cells Z 103)) w' w.heap.size true kb):=fun Z h1 h2 h3 h4=>Y1o w.heap.size Z _ (heap_alloc_new w _) h1 h2 h3 h4
 go_enter func40,ntmps40
 go_wp2_with (first
  | (go_at_call 48;refine (Yn2 _ _).mono ?_;rintro e w' ⟨rfl,rfl⟩)
  | (go_at_call 67;go_must (
   refine (KN.out _ Yn1 Yrz Yr0 Ytd).mono ?_;rintro e w1 ⟨kb,rfl,h1⟩;have H1:=Yh h1;clear h1)))
 go_ret2
 obtain ⟨s,h1,h2⟩:=Yti true H1.out rfl
 exact ⟨_,s,rfl,h1,h2⟩
theorem Y1p (db:Nat) (D:Array Value) (w:World) (hD:w.heap[db]? = some (.cells D 103 (0,0))) (hDz:D.size=27779) (hDv:D[27776]? = some (.slice none 0 0)) (hDf:D[27777]? = some (.int .i64 0)) (ha:∀ i,i<27776→D[i]? = some (.int .u8 0)):
 Calls prog 67 #[.int .i64 1,.pointer (some ⟨db,0,none⟩)] w fun e w'=>∃ kb,e=.returned (.iface 224 (.pointer (some ⟨kb,0,none⟩)))∧Yfc w w' db false kb:=by
 have hdw:db<w.heap.size:=Yaj hD
 have KS:Hid (Calls prog 82 #[.int .i64 1,.pointer (some ⟨w.heap.size,0,none⟩)] (w.alloc (.cells (Ybl db 1 0 0) 126)) fun e w'=>∃ kb,e=.returned (.iface 224 (.pointer (some ⟨kb,0,none⟩)))∧Yfc w w' db false kb):=by
  have hv:(w.alloc (.cells (Ybl db 1 0 0) 126)).heap[w.heap.size]? = some (.cells (Ybl db 1 0 0) 126 (0,0)):=heap_alloc_new w _;have hd:(w.alloc (.cells (Ybl db 1 0 0) 126)).heap[db]? = some (.cells D 103 (0,0)):=(Below.heap_alloc _ _ _ hdw).trans hD;have c1:(w.alloc (.cells (Ybl db 1 0 0) 126)).cell? ⟨w.heap.size,1,none⟩=some (.int .u32 1):=Yaa hv rfl;have KM:=Yh (Yq4 w.heap.size db 1 0 0 1 1 D (w.alloc (.cells (Ybl db 1 0 0) 126)) (by omega) (by omega) (by omega) (by omega) (by omega) (by omega) (by omega) (by omega) (by omega) (by omega) (by omega) hv hd hDz hDv hDf);have HF:Hid (∀ w1 w2,w1.heap[w.heap.size]? = some (.cells (Ybl db 1 (0+1) (1 - 0)) 126 (0,0))→w1.heap[db]? = some (.cells ((Ych D ((1 - 0:Int).toNat*64) (Yam 1 (0+1) (Yem 1 1))).setIfInBounds 27776 (.slice none 0 0)) 103 (0,0))→(∀ q,q<(w.alloc (.cells (Ybl db 1 0 0) 126)).heap.size→q≠w.heap.size→q≠db→w1.heap[q]? = (w.alloc (.cells (Ybl db 1 0 0) 126)).heap[q]?)→Below 0 (w.alloc (.cells (Ybl db 1 0 0) 126)) w1→Below w1.heap.size w1 w2→Yjf w2 w1.heap.size w.heap.size false (w1.heap.size+6)→Yfc w w2 db false (w1.heap.size+6)):=fun w1 w2 a1 a2 a3 a4 a5 a6=>Ytg false 1 hDz hDf ha hdw a1 a2 a3 a4 a5 a6
  clear hv hd;generalize hW:w.alloc (.cells (Ybl db 1 0 0) 126)=W at KM c1 HF ⊢;clear hD hDz hDv hDf ha hW;go_enter func82,ntmps82;go_wp2_with (first
   | (go_at_call 85;go_must (
    refine KM.out.mono ?_;rintro e w1 ⟨rfl,hv1,hd1,ho1,hb1⟩;have H1:=Yh (And.intro hv1 (And.intro hd1 (And.intro ho1 hb1)));clear hv1 hd1 ho1 hb1))
   | (go_at_call 102;go_must (
    refine (Y1m _ _).mono ?_;rintro e w2 ⟨rfl,hb2,hk2⟩;have H2:=Yh (HF.out w1 w2 H1.out.1 H1.out.2.1 H1.out.2.2.1 H1.out.2.2.2 hb2 hk2);clear hb2 hk2)))
  go_ret;exact ⟨_,rfl,H2.out⟩
 clear hD hDz hDv hDf ha
 generalize Yfc w=WN at KS ⊢
 go_enter func67,ntmps67
 go_wp2_with (first
  | (go_at_call 76;go_must (
   refine (Yr1 db w).mono ?_;rintro e w0 ⟨rfl,rfl⟩))
  | (go_at_call 82;go_must (
   refine KS.out.mono ?_;rintro e w1 ⟨kb,rfl,h1⟩;have H1:=Yh h1;clear h1)))
 go_ret
 exact ⟨_,rfl,H1.out⟩
theorem Ytk (w:World):
 Calls prog 40 #[.int .i64 1] w fun e w'=>∃ a s,e=.returned (.tuple #[.pointer (some ⟨a,0,none⟩),.int .i64 0])∧Below w.heap.size w w'∧Yhn w w' a false s:=by
 have KN:Hid (∀ Z:Array Value,Z.size=27779→Z[27776]? = some (.slice none 0 0)→Z[27777]? = some (.int .i64 0)→(∀ i,i<27776→Z[i]? = some (.int .u8 0))→Calls prog 67 #[.int .i64 1,.pointer (some ⟨w.heap.size,0,none⟩)] (w.alloc (.cells Z 103)) fun e w'=>∃ kb,e=.returned (.iface 224 (.pointer (some ⟨kb,0,none⟩)))∧Yfc (w.alloc (.cells Z 103)) w' w.heap.size false kb):=fun Z h1 h2 h3 h4=>Y1p w.heap.size Z _ (heap_alloc_new w _) h1 h2 h3 h4
 go_enter func40,ntmps40
 go_wp2_with (first
  | (go_at_call 48;refine (Yn2 _ _).mono ?_;rintro e w' ⟨rfl,rfl⟩)
  | (go_at_call 67;go_must (
   refine (KN.out _ Yn1 Yrz Yr0 Ytd).mono ?_;rintro e w1 ⟨kb,rfl,h1⟩;have H1:=Yh h1;clear h1)))
 go_ret2
 obtain ⟨s,h1,h2⟩:=Yti false H1.out rfl
 exact ⟨_,s,rfl,h1,h2⟩
end Go.Proofs.YtihbngfbcnojcaaGreat
