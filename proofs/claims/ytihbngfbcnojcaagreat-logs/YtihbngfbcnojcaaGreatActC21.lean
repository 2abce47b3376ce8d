import Derived.Test.YtihbngfbcnojcaaGreatActC20
import Derived.ProofKit
import Derived.Deep.Slices
import Derived.SizedLaws
set_option maxRecDepth 100000
set_option maxHeartbeats 8000000
namespace Go.Proofs.YtihbngfbcnojcaaGreat
open Go.RowKit Tryz
variable {hs:List (Nat×Yav)} {ps:List Plr} {N b q:Nat} {G:Nat→Prop} {v vps:Value} {w:World}
def Ykv (w:World) (sb so len:Nat):Prop:=∀ i,i<len→∃ o:OpV,Yhv o∧∀ j v,o.cells[j]? = some v→w.cell? ⟨sb,so+i*9+j,none⟩=some v
theorem Yus (w:World):Ycj w.heap.size (w.alloc (.cells #[.slice none 0 0,.slice none 0 0] 77)) w.heap.size (.slice none 0 0) (.slice none 0 0) [] (fun x=>x=w.heap.size) [] 0:=
 ⟨⟨heap_alloc_new _ _,World.ownsRow_nil _ _ _ _,(fun x hx=>by cases hx),(fun x hx=>by cases hx),rfl,(fun g hg=>by cases hg),(fun x hx=>by cases hx),fun g hg=>by rw [hg];simp⟩,World.ownsRow_nil _ _ _ _,Nat.zero_le _,(fun p hp=>by cases hp),(fun p hp=>by cases hp),(fun i j p p' hp=>by simp at hp),(fun p hp=>by cases hp),(fun p hp=>by cases hp),(fun p hp=>by cases hp),(fun x hx=>by cases hx),(fun p hp=>by cases hp),Nat.zero_le _,⟨fun x hx=>by omega,(fun x hx=>by cases hx),(fun p hp=>by cases hp)⟩⟩
theorem Y5m (L:Ycj N w b v vps hs G ps q) (hN:N≤w.heap.size) (h6:ps.length<6) (o:OpV):
 Calls prog 37 #[.pointer (some ⟨b,0,none⟩),.agg o.cells.toArray] w fun e w'=>e=.returned (.bool true)∧Yck N w w' b vps G ps q:=by
 by_cases h0:o.mode=0
 ·refine (Yo4 0 true rfl Ytj b o h0 w v vps ps.length (ps.map Yhu) L.hold.blk L.row h6).mono ?_
  rintro e w' ⟨h1,vps',pb,a,mb,F,M⟩;exact ⟨h1,Yur L hN h6 M⟩
 ·by_cases h1:o.mode=1
  ·refine (Yo4 1 false rfl Ytk b o h1 w v vps ps.length (ps.map Yhu) L.hold.blk L.row h6).mono ?_
   rintro e w' ⟨h1,vps',pb,a,mb,F,M⟩;exact ⟨h1,Yur L hN h6 M⟩
  ·obtain ⟨kd,on,om,t,key,val,keep,tear,fuse⟩:=o
   simp only at h0 h1;simp only [OpV.cells];refine (Yvl om (by simpa using h0) (by simpa using h1) _ _ _ _ _ _ _ _ _ w).mono ?_;rintro e w' ⟨h1,h2⟩;exact ⟨h1,L.same h2⟩
theorem Y5n (L:Ycj N w b v vps hs G ps q) (hN:N≤w.heap.size) (o:OpV) (hk:o.kind=1):
 Calls prog 38 #[.pointer (some ⟨b,0,none⟩),.agg o.cells.toArray] w fun e w'=>e=.returned (.bool true)∧Yck N w w' b vps G ps q:=by
 obtain ⟨n,hn⟩:∃ n,n=ps.length:=⟨_,rfl⟩
 obtain ⟨p,cap,hv,_⟩:=Ya6 L.row
 rw [←hn] at hv
 have hcb:w.cell? ⟨b,1,none⟩=some (.slice p n cap):=by rw [←hv];exact Yaa (j:=1) L.hold.blk rfl
 have hF:b<w.heap.size:=Yaz L.hold.blk
 have HW:Hid (∀ w',Below w.heap.size w w'→Yck N w w' b vps G ps q):=fun w' hb=>L.same hb
 by_cases h6:n<6
 ·have h6':¬(6:Int)≤(n:Int):=by omega
  have KC:Hid (∀ W,Below w.heap.size w W→Calls prog 37 #[.pointer (some ⟨b,0,none⟩),.agg o.cells.toArray] W fun e w'=>e=.returned (.bool true)∧Yck N w w' b vps G ps q):=fun W hb=>by
   refine (Y5m (L.below hb) (by have:=hb.size;omega) (by omega) o).mono ?_;rintro e w' ⟨h1,h2⟩;exact ⟨h1,Yck.from hb h2⟩
  clear L hv hn HW;obtain ⟨kd,on,om,t,key,val,keep,tear,fuse⟩:=o;simp only at hk;subst hk;simp only [OpV.cells] at KC ⊢;go_enter func38,ntmps38;go_wp2_with (first | (go_at_call 37;go_must (refine (KC.out _ ((Below.refl _ _).alloc (Nat.le_refl _) _)).mono ?_;rintro e w' ⟨rfl,hd⟩;have HD:=Yh hd;clear hd)))
  go_ret;exact ⟨rfl,HD.out⟩
 ·have h6':(6:Int)≤(n:Int):=by omega
  clear L hv hn;obtain ⟨kd,on,om,t,key,val,keep,tear,fuse⟩:=o;simp only at hk;subst hk;simp only [OpV.cells];go_enter func38,ntmps38;go_wp2;go_ret;exact ⟨rfl,HW.out _ ((Below.refl _ _).alloc (Nat.le_refl _) _)⟩
theorem Y5o (L:Ycj N w b v vps hs G ps q) (h0:ps.length=0) (o:OpV) (hk:2≤o.kind∧o.kind≤10):
 Calls prog 38 #[.pointer (some ⟨b,0,none⟩),.agg o.cells.toArray] w fun e w'=>e=.returned (.bool true)∧Yck N w w' b vps G ps q:=by
 obtain ⟨p,cap,hv,_⟩:=Ya6 L.row
 rw [h0] at hv
 have hcb:w.cell? ⟨b,1,none⟩=some (.slice p 0 cap):=by rw [←hv];exact Yaa (j:=1) L.hold.blk rfl
 have hF:b<w.heap.size:=Yaz L.hold.blk
 have HW:Hid (∀ w',Below w.heap.size w w'→Yck N w w' b vps G ps q):=fun w' hb=>L.same hb
 clear L hv h0
 obtain ⟨kd,on,om,t,key,val,keep,tear,fuse⟩:=o
 obtain ⟨hk1,hk2⟩:=hk
 simp only [OpV.cells] at hk1 hk2 ⊢
 have e1:(kd == 1)=false:=by simp;omega
 have e11:(kd == 11)=false:=by simp;omega
 have e2:¬kd<2:=by omega
 have e13:¬13<kd:=by omega
 go_enter func38,ntmps38
 go_wp2
 go_ret
 exact ⟨rfl,HW.out _ ((Below.refl _ _).alloc (Nat.le_refl _) _)⟩
theorem Y5p (L:Ycj N w b v vps hs G ps q) (hN:N≤w.heap.size) (hq:q≤1999999999998) (o:OpV) (ho:Yhv o) (hk:o.kind≤10):
 Calls prog 38 #[.pointer (some ⟨b,0,none⟩),.agg o.cells.toArray] w fun e w'=>e=.returned (.bool true)∧Yck N w w' b vps G ps q:=by
 by_cases h1:o.kind=1
 ·exact Y5n L hN o h1
 ·by_cases h2:o.kind<2
  ·obtain ⟨kd,on,om,t,key,val,keep,tear,fuse⟩:=o
   simp only at h1 h2;simp only [OpV.cells];refine (Yvm kd (by simpa using h1) (by simp;omega) (by omega) _ _ _ _ _ _ _ _ _ w).mono ?_;rintro e w' ⟨h3,h4⟩;exact ⟨h3,L.same h4⟩
  ·by_cases h0:ps.length=0
   ·exact Y5o L h0 o ⟨by omega,hk⟩
   ·by_cases h9:o.kind=9
    ·exact Y5k L hN (by omega) hq o ho h9
    ·by_cases h10:o.kind=10
     ·exact Y5l L hN (by omega) hq o ho h10
     ·exact Y5j L hN (by omega) hq o ho ⟨by omega,by omega⟩
theorem Yo8 (sb so len cap:Nat) (least last:Int) (w:World) (hl:len≤1999999999998) (hsc:Ykv w sb so len):
 Calls prog 16 #[.slice (some ⟨sb,so,none⟩) len cap,.int .i64 least,.int .i64 last,.int .i64 10] w fun e w'=>e=.returned (.int .i64 (-1))∧Below w.heap.size w w':=by
 go_enter func16,ntmps16
 go_wp2
 go_loopw [10] (fun i wr=>∃ k:Nat,k≤len∧i=.int .i64 k∧Below w.heap.size w wr∧∃ v vps hs G ps,Ycj w.heap.size wr w.heap.size v vps hs G ps k) (fun i _=>len - (intOf i).toNat)
 case atStart=>exact ⟨0,by omega,rfl,(Below.refl _ _).alloc (Nat.le_refl _) _,_,_,_,_,_,Yus w⟩
 case round=>
  obtain ⟨k,hk,rfl,hb,v,vps,hs,G,ps,L⟩:=hrel;have HB:=Yh hb;have HL:=Yh L;by_cases hlt:k<len
  ·have hlt':(k:Int)<(len:Int):=by omega
   obtain ⟨⟨ok,on,om,ot,okey,oval,okeep,otear,ofuse⟩,hok,ho⟩:=hsc k hlt;have hc:∀ j v,(OpV.cells ⟨ok,on,om,ot,okey,oval,okeep,otear,ofuse⟩)[j]? = some v→wr.cell? ⟨sb,so+k*9+j,none⟩=some v:=by
    intro j v hv;have h1:=ho j v hv;have h2:sb<w.heap.size:=World.block_lt_of_cell? w _ h1;rw [hb.cell h2];exact h1
   have c0:wr.cell? ⟨sb,so+k*9,none⟩=some (.int .i64 ok):=hc 0 _ rfl;have c1:wr.cell? ⟨sb,so+k*9+1,none⟩=some (.int .i64 on):=hc 1 _ rfl;have c2:wr.cell? ⟨sb,so+k*9+2,none⟩=some (.int .i64 om):=hc 2 _ rfl;have c3:wr.cell? ⟨sb,so+k*9+3,none⟩=some (.int .i64 ot):=hc 3 _ rfl;have c4:wr.cell? ⟨sb,so+k*9+4,none⟩=some (.string okey):=hc 4 _ rfl;have c5:wr.cell? ⟨sb,so+k*9+5,none⟩=some (.string oval):=hc 5 _ rfl;have c6:wr.cell? ⟨sb,so+k*9+6,none⟩=some (.int .u64 okeep):=hc 6 _ rfl;have c7:wr.cell? ⟨sb,so+k*9+7,none⟩=some (.int .i64 otear):=hc 7 _ rfl;have c8:wr.cell? ⟨sb,so+k*9+8,none⟩=some (.int .i64 ofuse):=hc 8 _ rfl;have HO:Hid (Yhv ⟨ok,on,om,ot,okey,oval,okeep,otear,0⟩):=⟨hok.n,hok.t,hok.key,hok.val⟩;clear hb ho hc hsc L hok;by_cases hk1:10<ok
   ·go_wp2
    refine ⟨⟨k+1,by omega,by go_num,HB.out.alloc HB.out.size _,v,vps,hs,G,ps,(HL.out.below ((Below.refl _ _).alloc (Nat.le_refl _) _)).upq (by omega)⟩,by simp [intOf];omega⟩
   ·have HS:Hid (∀ o:Obj,Calls prog 38 #[.pointer (some ⟨w.heap.size,0,none⟩),.agg #[.int .i64 ok,.int .i64 on,.int .i64 om,.int .i64 ot,.string okey,.string oval,.int .u64 okeep,.int .i64 otear,.int .i64 0]] (wr.alloc o) fun e w'=>e=.returned (.bool true)∧Yck w.heap.size (wr.alloc o) w' w.heap.size vps G ps k):=fun o=>Y5p (HL.out.below ((Below.refl _ _).alloc (Nat.le_refl _) _)) (by have:=HB.out.size;simp;omega) (by omega) ⟨ok,on,om,ot,okey,oval,okeep,otear,0⟩ HO.out (by show ok≤10;omega)
    go_upto_region 11 with (first
     | (go_at_call 38;go_must (
      refine (HS.out _).mono ?_;rintro e w1 ⟨rfl,hx,hr⟩;have hbb:=hr.2 wr.heap.size (by simp) (fun hg=>by have:=HL.out.hold.lt _ hg;omega) (fun p hp hf=>by have:=(HL.out.play p hp).lt _ hf;omega) (fun e=>by have:=(HL.out.row.lt _ e).2;omega);rw [heap_alloc_new] at hbb;have d0:=Yp1 (j:=0) hbb rfl;obtain ⟨v1,vps1,hs1,G1,ps1,L1⟩:=hx;have HB1:Hid (Below w.heap.size w w1):=(HB.out.alloc HB.out.size _).trans (Yck.base (HL.out.below ((Below.refl _ _).alloc (Nat.le_refl _) _)) (by have:=HB.out.size;simp;omega) hr);have HL1:=Yh L1;have KO:=Yh (Y4h w1 w.heap.size v1 hs1 (L1.hold.at' (by have:=L1.lens;omega)));have hdl:wr.heap.size<w1.heap.size:=Yaz hbb;clear hr hbb L1 c0 c1 c2 c3 c4 c5 c6 c7 c8 HS))
     | (go_at_call 39;go_must (
      refine KO.out.mono ?_;rintro e w2 ⟨rfl,hb2⟩;have d2:=(hb2.cell hdl).trans d0;have HB2:Hid (Below w.heap.size w w2):=HB1.out.trans (hb2.mono HB1.out.size);have HL2:Hid (Ycj w.heap.size w2 w.heap.size v1 vps1 hs1 G1 ps1 (k+1)):=HL1.out.below hb2;clear hb2 d0 hdl)))
    have hq:ok=1∨(ok == 1)=false:=by
     by_cases h:ok=1
     ·exact .inl h
     ·exact .inr (by simpa using h)
    by_cases hle:least≤ok
    ·by_cases hla:ok≤last
     ·go_wp2
      refine ⟨⟨k+1,by omega,by go_num,HB2.out,v1,vps1,hs1,G1,ps1,HL2.out⟩,by simp [intOf];omega⟩
     ·rcases hq with rfl | hq
      all_goals
       go_wp2;refine ⟨⟨k+1,by omega,by go_num,HB2.out,v1,vps1,hs1,G1,ps1,HL2.out⟩,by simp [intOf];omega⟩
    ·rcases hq with rfl | hq
     all_goals
      go_wp2;refine ⟨⟨k+1,by omega,by go_num,HB2.out,v1,vps1,hs1,G1,ps1,HL2.out⟩,by simp [intOf];omega⟩
  ·have hlt':¬(k:Int)<(len:Int):=by omega
   clear L hb;go_wp2;go_ret;exact ⟨rfl,HB.out⟩
def Ykw (ps:List Plr) (k:Nat):Prop:=ps.length=k∧(0<k→∃ p,ps[0]? = some p∧p.P=Sp.empty)
theorem Y5q {k:Nat} (L:Ycj N w b v vps hs G ps k) (hN:N≤w.heap.size) (hf:Ykw ps k) (hk:k<2):
 Calls prog 37 #[.pointer (some ⟨b,0,none⟩),.agg #[.int .i64 0,.int .i64 0,.int .i64 (k:Int),.int .i64 0,.string ByteArray.empty,.string ByteArray.empty,.int .u64 0,.int .i64 0,.int .i64 0]] w fun e w'=>e=.returned (.bool true)∧Below N w w'∧∃ v' vps' hs' G' ps',Ycj N w' b v' vps' hs' G' ps' (k+1)∧Ykw ps' (k+1):=by
 have hn:∀ (kb:Bool) (w:World),Calls prog 40 #[.int .i64 (if kb then 0 else 1)] w fun e w'=>∃ a s,e=.returned (.tuple #[.pointer (some ⟨a,0,none⟩),.int .i64 0])∧Below w.heap.size w w'∧Yhn w w' a kb s:=fun kb w=>by
  cases kb with
  | true=>exact Ytj w
  | false=>exact Ytk w
 obtain ⟨kb,hkb⟩:∃ kb:Bool,(k:Int)=if kb then 0 else 1:=by
  have:k=0∨k=1:=by omega
  rcases this with rfl | rfl
  ·exact ⟨true,rfl⟩
  ·exact ⟨false,rfl⟩
 have h6:ps.length<6:=by have:=hf.1;omega
 rw [hkb]
 refine (Yo4 _ kb rfl (hn kb) b ⟨0,0,if kb then 0 else 1,0,ByteArray.empty,ByteArray.empty,0,0,0⟩ rfl w v vps ps.length (ps.map Yhu) L.hold.blk L.row h6).mono ?_
 rintro e w' ⟨h1,vps',pb,a,mb,F,M⟩
 obtain ⟨L',R⟩:=Yo6 L hN h6 M
 refine ⟨h1,Yck.base L hN R,_,_,_,_,_,L',by simp [hf.1],fun _=>?_⟩
 cases ps with
 | nil=>exact ⟨_,rfl,rfl⟩
 | cons p r=>exact hf.2 (by have:=hf.1;simp at this;omega)
theorem Y5r (L:Ycj N w b v vps hs G ps 2) (hN:N≤w.heap.size) (hf:Ykw ps 2):
 ∃ g cap pb a,w.cell? ⟨b,1,none⟩=some (.slice (some ⟨g,0,none⟩) 2 cap)∧w.cell? ⟨g,0,none⟩=some (.pointer (some ⟨pb,0,none⟩))∧w.cell? ⟨pb,0,none⟩=some (.pointer (some ⟨a,0,none⟩)) ∧
  Calls prog 19 #[.pointer (some ⟨a,0,none⟩)] w fun e w'=>e=.returned (.tuple #[.int .i64 1,.int .i64 0])∧Below N w w':=by
 obtain ⟨p,hp,he⟩:=hf.2 (by omega)
 have hpm:p∈ps:=List.mem_of_getElem? hp
 obtain ⟨g,cap,hv⟩:=Ybn L.row (by have:=hf.1;omega)
 rw [hf.1] at hv
 have hr:=L.row
 have hc:w.cell? ⟨b,1,none⟩=some vps:=Yaa (j:=1) L.hold.blk rfl
 rw [hv] at hr hc
 rw [hf.1] at hr
 have hpl:=L.play p hpm
 rw [he] at hpl
 obtain ⟨XS,S,hS⟩:=Yuc hpl
 refine ⟨g,cap,p.pb,p.a,hc,Yal hr (by rw [List.getElem?_map,hp];rfl),Yaa (j:=0) (L.plr p hpm).cell rfl,(Ytv S).mono ?_⟩
 rintro e w' (⟨_,h2,h3⟩ | ⟨h1,_⟩)
 ·obtain ⟨_,k2,k3⟩:=hS w' _ _ h3
  exact ⟨h2,k2.os,k2.tape,k2.output,k2.size,fun x hx=>k3 x (by omega) (fun hF=>by have:=L.base.2.2 p hpm x hF;omega)⟩
 ·exact absurd rfl h1
theorem Yo9 (w:World):Calls prog 15 #[] w fun e w'=>e=.returned (.bool true)∧Below w.heap.size w w':=by
 go_enter func15,ntmps15;go_wp2;go_loopw [2] (fun i wr=>∃ k:Nat,k≤2∧i=.int .i64 k∧Below w.heap.size w wr∧∃ v vps hs G ps,Ycj w.heap.size wr w.heap.size v vps hs G ps k∧Ykw ps k) (fun i _=>2 - (intOf i).toNat)
 case atStart=>exact ⟨0,by omega,rfl,(Below.refl _ _).alloc (Nat.le_refl _) _,_,_,_,_,_,Yus w,rfl,fun h=>absurd h (by omega)⟩
 case round=>
  obtain ⟨k,hk,rfl,hb,v,vps,hs,G,ps,L,hf⟩:=hrel;have HB:=Yh hb;by_cases hlt:k<2
  ·have hlt':(k:Int)≤1:=by omega
   have KC:=Yh (Y5q L hb.size hf hlt);clear L hf hb;go_wp2_with (first
    | (go_at_call 37;go_must (
     refine KC.out.mono ?_;rintro e w' ⟨rfl,hb1,hx⟩;have HX:Hid (Below w.heap.size wr w'∧∃ v' vps' hs' G' ps',Ycj w.heap.size w' w.heap.size v' vps' hs' G' ps' (k+1)∧Ykw ps' (k+1)):=⟨hb1,hx⟩;clear hb1 hx)))
   exact ⟨⟨k+1,by omega,by simp,HB.out.trans HX.out.1,HX.out.2⟩,by simp [intOf];omega⟩
  ·have hlt':¬(k:Int)≤1:=by omega
   have hk2:k=2:=by omega
   subst hk2;obtain ⟨g,cap,pb,a,c1,c2,c3,kb⟩:=Y5r L hb.size hf;have KB:=Yh kb;clear L hf hb kb;go_wp2_with (first | (go_at_call 19;go_must (refine KB.out.mono ?_;rintro e w' ⟨rfl,hb3⟩)))
   go_ret;exact ⟨rfl,HB.out.trans hb3⟩
end Go.Proofs.YtihbngfbcnojcaaGreat
namespace Go.Proofs.YtihbngfbcnojcaaGreat
open Go.RowKit Go.ChangeShapes Go.WideShapes Go.ChangeAt Go.Deep Tryz
theorem Yjs (ad:Option Addr) (cap:Nat) (a b c:Int) (w:World):
 Calls prog 16 #[.slice ad 0 cap,.int .i64 a,.int .i64 b,.int .i64 c] w fun e w'=>e=.returned (.int .i64 (-1))∧Below w.heap.size w w':=by
 go_enter func16,ntmps16
 go_wp2
 go_loopw [10] (fun i wr=>i=.int .i64 0∧Below w.heap.size w wr) (fun _ _=>0)
 case atStart=>exact ⟨rfl,(Below.refl _ _).alloc (Nat.le_refl _) _⟩
 case round=>
  obtain ⟨rfl,hb⟩:=hrel;go_wp2;go_ret;exact ⟨rfl,hb⟩
theorem Yut {α:Type} {l:List α} (h:l.length=9):∃ a b c d e f g i j,l=[a,b,c,d,e,f,g,i,j]:=by
 match l,h with
 | [a,b,c,d,e,f,g,i,j],_=>exact ⟨a,b,c,d,e,f,g,i,j,rfl⟩
theorem Ymh {H:Type} {P:Program} {e:TypeId}:∀ {l:List (DataW H)} {d:DataW H},d∈l→∀ n∈d.weights P e,n∈DataW.weightsAll P e l
 | d' :: r,d,hd,n,hn=>by
  simp only [DataW.weightsAll,List.mem_append];rcases List.mem_cons.1 hd with rfl | h
  ·exact Or.inl hn
  ·exact Or.inr (Ymh h n hn)
theorem Yuu {n:Int} (h:(Lit.int .i64 n).wf=true):-9223372036854775808≤n∧n≤9223372036854775807:=by
 simp [Lit.wf,IntKind.min,IntKind.max,IntKind.signed,IntKind.bits] at h;omega
theorem Ypa {H:Type} {enc:TypeId×Value→H} {W:World} {base:Nat} {spare:Nat→Bool} {held:Bool} {a:Addr} {len n:Nat} {D:Nat→DataW H} {Pl:Nat→List MemPlace}
 (h:∀ i,i<len→∃ cs',W.cells? base (a.add (i*prog.cellsOf 80)) (prog.cellsOf 80)=some cs'∧DataW.trod enc prog W base spare held n 80 cs'=some (D i,Pl i)) (h0:0<len)
 (hz:∀ i,i<len→∀ n∈(D i).weights prog 80,n≤reachBytes):
 a.spot=none∧Ykv W a.block a.off len:=by
 have ce:prog.cellsOf 80=9:=by kernel_rfl
 have c3:prog.cellsOf 3=1:=by kernel_rfl
 have c9:prog.cellsOf 9=1:=by kernel_rfl
 have c53:prog.cellsOf 53=1:=by kernel_rfl
 rw [ce] at h
 have hsp:a.spot=none:=by
  obtain ⟨cs',h1,_⟩:=h 0 h0;obtain ⟨_,hl,hc⟩:=World.cells?_some h1;have:=hc 0 (by omega);rw [List.getElem?_eq_getElem (by omega)] at this;simp [Addr.add] at this;unfold World.cell? at this;split at this
  ·split at this
   ·cases this
   ·rename_i hh;simpa using hh
  ·cases this
 refine ⟨hsp,fun i hi=>?_⟩
 obtain ⟨cs',h1,h2⟩:=h i hi
 have hzi:=hz i hi
 obtain ⟨_,hl,hc⟩:=World.cells?_some h1
 obtain ⟨xs,k,_,hD,_,hxl,hf⟩:=DataW.trod_struct underlying80 h2
 simp only [Prod.mk.injEq] at hD
 rw [hD.1] at hzi
 obtain ⟨v0,v1,v2,v3,v4,v5,v6,v7,v8,rfl⟩:=Yut hl
 obtain ⟨x0,x1,x2,x3,x4,x5,x6,x7,x8,rfl⟩:=Yut (l:=xs) hxl
 have g0:=hf 0 _ rfl
 have g1:=hf 1 _ rfl
 have g2:=hf 2 _ rfl
 have g3:=hf 3 _ rfl
 have g4:=hf 4 _ rfl
 have g5:=hf 5 _ rfl
 have g6:=hf 6 _ rfl
 have g7:=hf 7 _ rfl
 have g8:=hf 8 _ rfl
 simp [c3,c9,c53] at g0 g1 g2 g3 g4 g5 g6 g7 g8
 obtain ⟨n0,e0,_,_⟩:=DataW.trod_int underlying3 g0
 obtain ⟨n1,e1,_,w1⟩:=DataW.trod_int underlying3 g1
 obtain ⟨n2,e2,_,_⟩:=DataW.trod_int underlying3 g2
 obtain ⟨n3,e3,_,w3⟩:=DataW.trod_int underlying3 g3
 obtain ⟨s4,e4,y4,_⟩:=DataW.trod_string underlying9 g4
 obtain ⟨s5,e5,y5,_⟩:=DataW.trod_string underlying9 g5
 obtain ⟨n6,e6,_,_⟩:=DataW.trod_int underlying53 g6
 obtain ⟨n7,e7,_,_⟩:=DataW.trod_int underlying3 g7
 obtain ⟨n8,e8,_,_⟩:=DataW.trod_int underlying3 g8
 simp only [List.cons.injEq,and_true] at e0 e1 e2 e3 e4 e5 e6 e7 e8
 subst e0 e1 e2 e3 e4 e5 e6 e7 e8
 have hs4:s4.size≤reachBytes:=by
  refine hzi s4.data.toList.length ?_;simp only [DataW.weights,underlying80];exact DataW.weights_mem_each (j:=4) (t:=9) (d:=.lit (.string s4.data.toList)) rfl (by rw [y4];rfl) _ (by simp [DataW.weights])
 have hs5:s5.size≤reachBytes:=by
  refine hzi s5.data.toList.length ?_;simp only [DataW.weights,underlying80];exact DataW.weights_mem_each (j:=5) (t:=9) (d:=.lit (.string s5.data.toList)) rfl (by rw [y5];rfl) _ (by simp [DataW.weights])
 have b1:=Yuu w1
 have b3:=Yuu w3
 unfold reachBytes at hs4 hs5
 refine ⟨⟨n0,n1,n2,n3,s4,s5,n6,n7,n8⟩,⟨⟨b1.1,by show n1<_;omega⟩,⟨b3.1,by show n3<_;omega⟩,by show s4.size≤_;omega,by show s5.size≤_;omega⟩,fun j v hv=>?_⟩
 have hj:j<9:=by
  have:=(List.getElem?_eq_some_iff.1 hv).1;simpa [OpV.cells] using this
 have:=hc j hj
 rw [add_add] at this
 have ha:a.add (i*9+j)=⟨a.block,a.off+i*9+j,none⟩:=by
  unfold Addr.add;split
  ·cases a;simp_all
  ·simp
 rw [ha] at this
 rw [this]
 exact hv
theorem Ykv.later {w w':World} {sb so len:Nat} (h:Ykv w sb so len) (hb:Below w.heap.size w w'):Ykv w' sb so len:=by
 intro i hi;obtain ⟨o,h0,ho⟩:=h i hi;refine ⟨o,h0,fun j v hv=>?_⟩;have h1:=ho j v hv;rw [hb.cell (World.block_lt_of_cell? w _ h1)];exact h1
theorem Ypb:ownKnob prog.godebug=none:=by kernel_rfl
theorem Ypc:laidOutB prog=true:=by kernel_rfl
theorem Ypd:prog.bytesOf 80=88:=by kernel_rfl
end Go.Proofs.YtihbngfbcnojcaaGreat
