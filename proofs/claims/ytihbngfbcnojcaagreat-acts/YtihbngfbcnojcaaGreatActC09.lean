import Derived.Test.YtihbngfbcnojcaaGreatActC08
import Derived.Deep.Upon
import Derived.Maps.OwnSet
import Derived.Maps.OwnOps
import Derived.Maps.RangeWalk
import Derived.Maps.Views
import Derived.StringKeys
set_option maxRecDepth 100000
set_option maxHeartbeats 8000000
namespace Go.Proofs.YtihbngfbcnojcaaGreat
open Go.RowKit Tryz
variable {D M:DataW Value} {a t:Int} {ws:List (Nat×List Value)} {b db k mb n:Nat} {v:Value} {w w' wr:World} {ps:Yaf}
theorem Yxq {ops:Array Oper} {rest:List Oper} {o:Oper} {ac:Act} {Q:Exit→Act→World→Prop} (hgd:o.guard=none) (s x:Operand)
 (ho:o.op=.call { callee:=.builtin .append,args:=#[s,x],argTypes:=#[34,34] }) (base base':Nat) (v u:Value) (l m:Yaf) (hs:ac.eval s=v) (hown:w.ownsRow base 43 2 v l.length (Yad l))
 (hx:ac.eval x=u) (hu:w.ownsRow base' 43 2 u m.length (Yad m)) (hlen:l.length≤1000000) (hlen':m.length≤1000000) (hbase:base≤w.heap.size)
 (h:∀ v' w',w'.ownsRow base 43 2 v' (l ++ m).length (Yad (l ++ m))→Below base w w'→(∀ k,k<w.heap.size→v.ownBlock≠some k→w'.heap[k]? = w.heap[k]?)→wpList prog ops Q rest (ac.put o.dst v') w'):wpList prog ops Q (o :: rest) ac w:=by
 obtain ⟨i0,hi,hz0,hz1,hz2⟩:=info_parts Ygk
 rcases hu.2 with ⟨rfl,hm⟩ | ⟨g,cap,cur,rfl,hg,hgg,hcap,hmax,hcs,htake⟩
 ·obtain rfl:m=[]:=List.eq_nil_of_length_eq_zero hm
  rw [List.append_nil] at h;have hv:∃ ad cap,v=.slice ad l.length cap∧l.length≤cap:=by
   rcases hown.2 with ⟨h1,h2⟩ | ⟨g,cap,cur,h1,_,_,h4,_⟩
   ·exact ⟨none,0,by rw [h2];exact h1,by omega⟩
   ·exact ⟨_,_,h1,h4⟩
  obtain ⟨ad,cap,rfl,hle⟩:=hv;exact Lib.wpList_append_run w hgd s x _ _ ho _ _ hs hx _ _ (run_append_nothing w _ _ _ _ i0 underlying34 hi ad l.length cap hle _ (Src.ofNil w underlying34 0)) (h _ _ hown (Below.refl _ _) (fun _ _ _=>rfl))
 ·refine wpList_append_own_at w hgd s x 34 ho base 43 i0 _ 2 32 underlying34 hi hz0 hz1 hz2 rfl (by decide) v l.length (Yad l) hs hown ⟨g,0,none⟩ m.length cap (Yad m) hx (Yds m) (fun j u hu'=>by
   rw [Ydg];refine Yaa hgg ?_;rw [←htake,List.getElem?_take] at hu';split at hu'
   ·simpa using hu'
   ·cases hu') (Yjx m) (by unfold maxLen;omega) (by omega) hbase ?_
  intro v' w' h1 h2 _ _;refine h v' w' ?_ (Ym2 h2 hown (Nat.le_refl _) hbase) (fun k h3 h4=>h2.block k h3 (fun e=>h4 e.symm));rw [List.length_append,Yg5];exact h1
theorem Yxr (a b:Int) (k1 v1 k2 v2 k3 v3 k4 v4:ByteArray) (w:World) (ha:0≤a) (ha':a<4294967295) (hb:0≤b) (hb':b<4294967296) (h1:k1.size≤8) (h2:v1.size≤12) (h3:k2.size≤8) (h4:v2.size≤12) (h5:k3.size≤8) (h6:v3.size≤12) (h7:k4.size≤8) (h8:v4.size≤12):
 Calls prog 188 #[.agg (Yam a b (Ybz k1 v1 k2 v2) ++ Yam a b (Ybz k3 v3 k4 v4)).toArray] w fun e w'=>∃ v,e=.returned (.tuple #[.agg #[.int .u32 a,.int .u32 b],v,.bool true]) ∧
  w'.ownsRow w.heap.size 43 2 v (Ycq k1 v1 k2 v2 2 ++ Ycq k3 v3 k4 v4 2).length (Yad (Ycq k1 v1 k2 v2 2 ++ Ycq k3 v3 k4 v4 2))∧Below w.heap.size w w':=by
 have HU1:=Yh (fun w=>Yq9 a b k1 v1 k2 v2 w ha ha' hb hb' h1 h2 h3 h4)
 have HU2:=Yh (fun w=>Yq9 a b k3 v3 k4 v4 w ha ha' hb hb' h5 h6 h7 h8)
 have hs1:(Yam a b (Ybz k1 v1 k2 v2)).length=64:=Yeh a b _ (by rw [Yka k1 v1 k2 v2 h1 h2 h3 h4];omega)
 have hs2:(Yam a b (Ybz k3 v3 k4 v4)).length=64:=Yeh a b _ (by rw [Yka k3 v3 k4 v4 h5 h6 h7 h8];omega)
 have ho2:∀ u∈Yam a b (Ybz k3 v3 k4 v4),u.oneCell'=true:=Yfy a b _ (fun u hu=>by obtain ⟨x,rfl,_⟩:=Ynm k3 v3 k4 v4 h5 h6 h7 h8 u hu;rfl)
 have hl:∀ k1 v1 k2 v2,(Ycq k1 v1 k2 v2 2).length≤2:=fun k1 v1 k2 v2=>by
  have h01:∀ x y,(Yem x y).length≤1:=fun x y=>by unfold Yem;split <;> simp
  have:=h01 k1 v1;have:=h01 k2 v2;simp [Ycq];omega
 have hl1:=hl k1 v1 k2 v2
 have hl2:=hl k3 v3 k4 v4
 generalize Yam a b (Ybz k1 v1 k2 v2)=S1 at HU1 hs1 ⊢
 generalize Yam a b (Ybz k3 v3 k4 v4)=S2 at HU2 hs2 ho2 ⊢
 generalize Ycq k1 v1 k2 v2 2=P1 at HU1 hl1 ⊢
 generalize Ycq k3 v3 k4 v4 2=P2 at HU2 hl2 ⊢
 have hi1:(prog.info? 98).map (·.size)=some S1.length:=by rw [hs1];kernel_rfl
 have hi2:(prog.info? 98).map (·.size)=some S2.length:=by rw [hs2];kernel_rfl
 have HR1:Hid (∀ W:World,W.heap[w.heap.size]? = some (.cells (S1 ++ S2).toArray 256 (0,0))→W.rangeAt w.heap.size 0 S1):=fun W hW j u hu=>by
  rw [Nat.zero_add];exact Yaa hW (by rw [List.getElem?_toArray,List.getElem?_append_left (List.getElem?_eq_some_iff.1 hu).1];exact hu)
 have HR2:Hid (∀ W:World,W.heap[w.heap.size]? = some (.cells (S1 ++ S2).toArray 256 (0,0))→W.rangeAt w.heap.size 64 S2):=fun W hW j u hu=>by
  exact Yaa hW (by rw [List.getElem?_toArray,List.getElem?_append_right (by omega),hs1];simpa using hu)
 clear hl h1 h2 h3 h4 h5 h6 h7 h8
 go_enter func188,ntmps188
 go_wp2_with (first
  | (refine wpList_load_mid rfl 98 (.tmp 14) rfl w.heap.size 0 (by rfl) S1 _ (HR1.out _ ((Below.heap_alloc _ _ _ (by simp)).trans (heap_alloc_new w _))) underlying98 rfl hi1 ?_)
  | (go_at_call 219;go_must (
   refine (HU1.out _).mono ?_;rintro e w1 ⟨x1,rfl,hx1,hb1⟩;have HX1:=Yh hx1;have HB1:=Yh hb1;clear hb1 hx1)))
 have hz0:((w.alloc (.cells (S1 ++ S2).toArray 256)).alloc (.cells #[.int .u32 0,.int .u32 0] 168)).heap.size=w.heap.size+1+1:=by simp
 have hx1:w1.ownsRow (w.heap.size+1+1) 43 2 x1 P1.length (Yad P1):=by have:=HX1.out;rw [hz0] at this;exact this
 have hb1:Below (w.heap.size+1+1) ((w.alloc (.cells (S1 ++ S2).toArray 256)).alloc (.cells #[.int .u32 0,.int .u32 0] 168)) w1:=by have:=HB1.out;rw [hz0] at this;exact this
 have hz1:w.heap.size+1+1≤w1.heap.size:=by have:=hb1.size;rw [hz0] at this;exact this
 obtain ⟨W2,hW2⟩:∃ W2,w1.alloc (.cells #[.int .u32 a,.int .u32 b] 168)=W2:=⟨_,rfl⟩
 have HB2:Hid (Below w.heap.size w W2):=by
  show Below _ _ _;rw [←hW2];exact (((((Below.refl _ w).alloc (Nat.le_refl _) _).alloc (by simp) _).trans (hb1.mono (by omega))).alloc (by omega) _)
 have HG:Hid (W2.heap[w.heap.size]? = some (.cells (S1 ++ S2).toArray 256 (0,0))):=by show _=_;rw [←hW2,Below.heap_alloc _ _ _ (by omega)];exact (hb1.block _ (by omega)).trans ((Below.heap_alloc _ _ _ (by simp)).trans (heap_alloc_new w _))
 have HQ1:Hid (W2.heap[w.heap.size+1]? = some (.cells #[.int .u32 0,.int .u32 0] 168 (0,0))):=by show _=_;rw [←hW2,Below.heap_alloc _ _ _ (by omega)];exact (hb1.block _ (by omega)).trans (Yi2 w _ _)
 have HP5:Hid (W2.heap[w1.heap.size]? = some (.cells #[.int .u32 a,.int .u32 b] 168 (0,0))):=by show _=_;rw [←hW2];exact heap_alloc_new w1 _
 have HOX:Hid (W2.ownsRow (w.heap.size+1+1) 43 2 x1 P1.length (Yad P1)):=by show World.ownsRow _ _ _ _ _ _ _;rw [←hW2];exact hx1.alloc _
 have HOL:Hid (∀ g,x1.ownBlock=some g→g<w1.heap.size):=fun g hg=>(hx1.lt g hg).2
 have HZ2:Hid (W2.heap.size=w1.heap.size+1):=by show _=_;rw [←hW2];simp
 rw [hW2]
 generalize w1.heap.size=p5 at *
 clear hW2 hx1 hb1 HX1 HB1 HU1 hz0 HR1
 go_loopw [6,7,22] (fun v ok i wr=>∃ k:Nat,k≤1∧i=.int .i64 k∧ok=.bool true∧wr.ownsRow (w.heap.size+1+1) 43 2 v (if k=0 then P1 else P1 ++ P2).length (Yad (if k=0 then P1 else P1 ++ P2))∧(k=0→v=x1∧wr=W2)∧wr.heap[p5]? = some (.cells #[.int .u32 a,.int .u32 b] 168 (0,0))∧Below (w.heap.size+1+1) W2 wr) (fun _ _ i _=>1 - (intOf i).toNat)
 case atStart=>exact ⟨0,by omega,rfl,rfl,by simpa using HOX.out,fun _=>⟨rfl,rfl⟩,HP5.out,Below.refl _ _⟩
 case round=>
  obtain ⟨k,hk,rfl,rfl,hown,hk0,hp5,hbw⟩:=hrel;by_cases hlt:k=0
  ·subst hlt
   obtain ⟨rfl,rfl⟩:=hk0 rfl;clear hown hp5 hbw hk0;have tok1:True:=trivial;have tok2:True:=trivial;have hp5l:p5<wr.heap.size:=Yaj HP5.out;go_wp2_with (first
    | (refine wpList_load_mid rfl 98 (.tmp 24) rfl w.heap.size 64 (by rfl) S2 _ (HR2.out _ HG.out) underlying98 rfl hi2 ?_)
    | (
     refine wpList_store_row rfl 98 (.tmp 9) (.tmp 25) rfl wr.heap.size S2.toArray (by rfl) (by rfl) 98 _ (heap_alloc_new _ _) (by simpa using hi2) ?ho (all_oneCell_toArray ho2) ?_
     case ho=>simp [hs2]
     rw [World.setRow_alloc_new])
    | (refine wpList_load_mid rfl 98 (.tmp 9) rfl wr.heap.size 0 (by rfl) S2 _ (fun j u hu=>by rw [Nat.zero_add];exact Yaa (heap_alloc_new wr _) (by simpa using hu)) underlying98 rfl hi2 ?_)
    | (go_at_call 219;go_must (
     refine (HU2.out _).mono ?_;rintro e w2 ⟨x2,rfl,hx2,hb2⟩;have HX2:=Yh hx2;have HB3:Hid (Below wr.heap.size wr w2):=((Below.refl _ wr).alloc (Nat.le_refl _) _).trans (hb2.mono (by simp));have q5:=(HB3.out.block _ hp5l).trans HP5.out;have c5:=Yaa (j:=0) q5 rfl;have c6:=Yaa (j:=1) q5 rfl;have hlt2:wr.heap.size≤w2.heap.size:=HB3.out.size;have hp52:p5<w2.heap.size:=by omega
     clear hb2 hx2 q5))
    | (at_builtin;go_must (
     refine Yxq rfl _ _ rfl (w.heap.size+1+1) 0 u6 x2 P1 P2 rfl ?hown rfl ?hsrc (by omega) (by omega) ?hbase ?_
     case hown=>exact (Ybe HOX.out HB3.out (fun g hg=>by have:=HOL.out g hg;omega)).alloc _
     case hsrc=>exact Yeu (HX2.out.alloc _) (Nat.zero_le _)
     case hbase=>simp;omega
     intro v7 w7 hown7 hb7 hk7;have HB7:Hid (Below (w.heap.size+1+1) wr w7):=((HB3.out.mono (by omega)).alloc (by omega) _).trans hb7;have HQ5:Hid (w7.heap[p5]? = some (.cells #[.int .u32 a,.int .u32 b] 168 (0,0))):=(hk7 p5 (by simp;omega) (fun e=>by have:=HOL.out p5 e;omega)).trans ((Below.heap_alloc _ _ _ (by omega)).trans ((HB3.out.block _ hp5l).trans HP5.out));clear hb7 hk7)))
   refine ⟨⟨1,by omega,rfl,rfl,by simpa using hown7,fun h=>absurd h (by omega),HQ5.out,HB7.out⟩,by simp [intOf]⟩
  ·obtain rfl:k=1:=by omega
   have q1:=(hbw.block (w.heap.size+1) (by omega)).trans HQ1.out;have c1:=Yaa (j:=0) q1 rfl;have c2:=Yaa (j:=1) q1 rfl;have f1:=Yah 0 q1;have f2:=Yah 1 q1;have c5:=Yaa (j:=0) hp5 rfl;have c6:=Yaa (j:=1) hp5 rfl;have HQ:=Yh q1;have HOW:Hid (wr.ownsRow (w.heap.size+1+1) 43 2 u6 (P1 ++ P2).length (Yad (P1 ++ P2))):=by show World.ownsRow _ _ _ _ _ _ _;simpa using hown
   have HBF:Hid (Below w.heap.size w wr):=HB2.out.trans (hbw.mono (by omega));clear q1 hown hbw hk0 hp5;go_wp2;have k3:=Yak _ (w.heap.size+1) 1 (.int .u32 b) _ 168 (Yak wr (w.heap.size+1) 0 (.int .u32 a) _ 168 HQ.out);have m0:=Yaa (j:=0) k3 rfl;have m1:=Yaa (j:=1) k3 rfl;refine bodyPost_ret (v:=.tuple #[.agg #[.int .u32 a,.int .u32 b],u6,.bool true]) ?_ rfl ⟨u6,rfl,?_,?_⟩
   ·simp [results,Tryz.results188,go_sem,m0,m1]
   ·refine Yeu (Yda (w:=wr) HOW.out (fun g hg=>?_)) (show w.heap.size≤w.heap.size+1+1 by omega)
    have:=(HOW.out.lt g hg).1;exact (Below.heap_setCell _ _ _ _ (show g≠w.heap.size+1 by omega)).trans (Below.heap_setCell _ _ _ _ (show g≠w.heap.size+1 by omega))
   ·exact (HBF.out.setCell (p:=⟨w.heap.size+1,0,none⟩) (by simp) _).setCell (p:=⟨w.heap.size+1,1,none⟩) (by simp) _
def Yen (w:World) (db:Nat) (D:Array Value) (ws:List (Nat×List Value)) (v:Value):Prop:=
 w.heap[db]? = some (.cells D 103 (0,0))∧D.size=27779∧D[27776]? = some v∧Yhe w v ws∧Ydn ws∧ws.length≤100000∧(∀ i u,i<27776→D[i]? = some u→Ycm u)∧(∀ p∈ws,∀ u∈p.2,Ycm u)
theorem Ykb {u:Value} (h:Ycm u):u.oneCell'=true:=by obtain ⟨x,rfl,_⟩:=h;rfl
theorem Yen.below {D:Array Value} (h:Yen w db D ws v) (hb:Below w.heap.size w w'):Yen w' db D ws v:=by
 obtain ⟨h1,h2,h3,h4,h5⟩:=h;exact ⟨(hb.block _ (Yaj h1)).trans h1,h2,h3,h4.below hb,h5⟩
theorem Yra {D:Array Value} (hz:D.size=27779) (hb:∀ i u,i<27776→D[i]? = some u→Ycm u) {a:Nat} (ha:a<434):∀ u∈D.extract (a*64) (a*64+64),Ycm u:=by
 intro u hu;obtain ⟨i,hi,rfl⟩:=Array.mem_iff_getElem.1 hu;rw [Array.size_extract] at hi;rw [Array.getElem_extract];exact hb (a*64+i) _ (by omega) (Array.getElem?_eq_getElem (by omega))
theorem Yrb {D:Array Value} (h:Yen w db D ws v) {a:Nat} (ha:a<434):(Yay D ws a).length=64∧∀ u∈Yay D ws a,Ycm u:=by
 obtain ⟨_,h2,_,_,h5,_,h7,h8⟩:=h;unfold Yay;split
 ·rename_i p hp
  have hm:p∈ws:=List.mem_reverse.1 (List.mem_of_find?_eq_some hp);exact ⟨(h5 p hm).2.1,h8 p hm⟩
 ·refine ⟨?_,fun u hu=>Yra h2 h7 ha u (Array.mem_toList_iff.1 hu)⟩
  rw [Array.length_toList,Array.size_extract];omega
theorem Yrc {D:Array Value} (h:Yen w db D ws v) (a:Nat) (ha:a<434):
 Calls prog 107 #[.pointer (some ⟨db,0,none⟩),.int .i64 (a:Int)] w fun e w'=>e=.returned (.agg (Yay D ws a).toArray)∧Below w.heap.size w w':=by
 obtain ⟨h1,h2,h3,h4,h5,h6,h7,h8⟩:=h
 exact Yxd db a ws v D w ha h5 h6 h1 h2 h3 h4 (fun u hu=>Ykb (Yra h2 h7 ha u hu))
theorem Ynn (n t:Nat) (w:World) (hn:n≤100) (ht:t≤10):
 Calls prog 164 #[.int .i64 (n:Int),.int .i64 (t:Int)] w fun e w'=>e=.returned (.int .i64 ((2+(n*2+t)*2:Nat):Int))∧w=w':=by
 have e1:wrap64 ((n:Int)*2)=(n:Int)*2:=by simp only [wrap64];omega
 have e2:wrap64 ((n:Int)*2+t)=(n:Int)*2+t:=by simp only [wrap64];omega
 have e3:wrap64 (((n:Int)*2+t)*2)=((n:Int)*2+t)*2:=by simp only [wrap64];omega
 have e4:wrap64 (2+((n:Int)*2+t)*2)=2+((n:Int)*2+t)*2:=by simp only [wrap64];omega
 go_enter func164,ntmps164
 go_wp2_with (first | (go_at_call 108;refine (Ypv _ _).mono ?_;rintro e w' ⟨rfl,rfl⟩))
 go_ret
 exact ⟨by simp,rfl⟩
def Yci (R0 R1:List Value):Nat→List Value
 | 0=>List.replicate 64 (.int .u8 0) ++ List.replicate 64 (.int .u8 0)
 | 1=>R0 ++ List.replicate 64 (.int .u8 0)
 | _=>R0 ++ R1
theorem Ylj (A B C X:List Value) (h:B.length=X.length):Ycg (A ++ B ++ C).toArray A.length X=(A ++ X ++ C).toArray:=by
 apply Array.ext_getElem?;intro j;rw [Yf3,List.getElem?_toArray,List.getElem?_toArray];by_cases h1:j<A.length
 ·rw [if_neg (by omega),List.append_assoc,List.append_assoc,List.getElem?_append_left h1,List.getElem?_append_left h1]
 ·by_cases h2:j<A.length+X.length
  ·rw [if_pos ⟨by omega,h2,by simp;omega⟩,List.append_assoc,List.getElem?_append_right (by omega),List.getElem?_append_left (by omega)]
  ·rw [if_neg (by omega),List.getElem?_append_right (by simp;omega),List.getElem?_append_right (by simp;omega)]
   simp [h]
theorem Ylk (w:World) (b:Nat) (cs:Array Value):Below b w (w.setRow b cs):=by
 refine ⟨rfl,rfl,rfl,by simp [World.setRow],fun k hk=>?_⟩;exact setRow_other w b k cs (by omega)
theorem Yno:Tryz.zeroCells256=(Yci [] [] 0).toArray:=by kernel_rfl
theorem Yxs (pb o vb db n t:Nat) (D:Array Value) (ws:List (Nat×List Value)) (v:Value) (w:World) (hn:n<8) (ht:t<2) (hp:w.cell? ⟨pb,o,none⟩=some (.pointer (some ⟨vb,0,none⟩))) (hv:w.cell? ⟨vb,0,none⟩=some (.pointer (some ⟨db,0,none⟩)))
 (hpw:pb<w.heap.size) (hvw:vb<w.heap.size) (hd:Yen w db D ws v):
 Calls prog 189 #[.pointer (some ⟨pb,o,none⟩),.int .i64 (n:Int),.int .i64 (t:Int)] w fun e w'=>e=.returned (.agg (Yay D ws (2+(n*2+t)*2) ++ Yay D ws (2+(n*2+t)*2+1)).toArray)∧Below w.heap.size w w':=by
 obtain ⟨l0,y0⟩:=Yrb hd (a:=2+(n*2+t)*2) (by omega)
 obtain ⟨l1,y1⟩:=Yrb hd (a:=2+(n*2+t)*2+1) (by omega)
 have HRD:Hid (∀ W,Below w.heap.size w W→∀ a:Nat,a<434→Calls prog 107 #[.pointer (some ⟨db,0,none⟩),.int .i64 (a:Int)] W fun e w'=>e=.returned (.agg (Yay D ws a).toArray)∧Below W.heap.size W w'):=fun W hW a ha=>Yrc (hd.below hW) a ha
 have HC:Hid (∀ W,Below w.heap.size w W→W.cell? ⟨pb,o,none⟩=some (.pointer (some ⟨vb,0,none⟩))∧W.cell? ⟨vb,0,none⟩=some (.pointer (some ⟨db,0,none⟩))):=fun W hW=>⟨(hW.cell (p:=⟨pb,o,none⟩) hpw).trans hp,(hW.cell (p:=⟨vb,0,none⟩) hvw).trans hv⟩
 clear hd
 obtain ⟨A,hA⟩:∃ A:Nat,2+(n*2+t)*2=A:=⟨_,rfl⟩
 have hA4:A+1<434:=by omega
 have KP:=fun W=>Ynn n t W (by omega) (by omega)
 rw [hA] at l0 y0 l1 y1 KP ⊢
 have HKP:=Yh KP
 have HY0:=Yh y0
 have HY1:=Yh y1
 clear hA KP y0 y1
 go_enter func189,ntmps189
 go_wp2
 rw [Yno]
 obtain ⟨W1,hW1⟩:∃ W1,(w.alloc (.cells (Yci [] [] 0).toArray 256)).alloc (.cells (Yci [] [] 0).toArray 256)=W1:=⟨_,rfl⟩
 have b0:W1.heap[w.heap.size]? = some (.cells (Yci [] [] 0).toArray 256 (0,0)):=by rw [←hW1,Below.heap_alloc _ _ _ (by simp)];exact heap_alloc_new w _
 have b1:W1.heap[w.heap.size+1]? = some (.cells (Yci [] [] 0).toArray 256 (0,0)):=by rw [←hW1];exact Yi2 w _ _
 have hB1:Below w.heap.size w W1:=by rw [←hW1];exact ((Below.refl _ w).alloc (Nat.le_refl _) _).alloc (by simp) _
 rw [hW1]
 clear hW1
 go_loopw [9] (fun i wr=>∃ k:Nat,k≤2∧i=.int .i64 k∧wr.heap[w.heap.size+1]? = some (.cells (Yci (Yay D ws A) (Yay D ws (A+1)) k).toArray 256 (0,0))∧wr.heap[w.heap.size]? = some (.cells (Yci [] [] 0).toArray 256 (0,0))∧Below w.heap.size w wr) (fun i _=>2 - (intOf i).toNat)
 case atStart=>exact ⟨0,by omega,rfl,b1,b0,hB1⟩
 case round=>
  obtain ⟨k,hk,rfl,hc1,hc0,hbw⟩:=hrel;clear b0 b1 hB1;by_cases hlt:k<2
  ·have hlt':(k:Int)<2:=by omega
   obtain ⟨R,hR⟩:∃ R,Yay D ws (A+k)=R:=⟨_,rfl⟩;have hRl:R.length=64:=by
    rw [←hR];match k,hlt with
    | 0,_=>exact l0
    | 1,_=>exact l1
   have hR1:∀ u∈R,u.oneCell'=true:=by
    rw [←hR];match k,hlt with
    | 0,_=>exact fun u hu=>Ykb (HY0.out u hu)
    | 1,_=>exact fun u hu=>Ykb (HY1.out u hu)
   have hs128:(Yci (Yay D ws A) (Yay D ws (A+1)) k).length=128:=by
    match k,hlt with
    | 0,_=>simp [Yci]
    | 1,_=>simp [Yci,l0]
   have HNX:Hid (Ycg (Yci (Yay D ws A) (Yay D ws (A+1)) k).toArray (k*64) R=(Yci (Yay D ws A) (Yay D ws (A+1)) (k+1)).toArray):=by
    show _=_;match k,hlt with
    | 0,_=>
     have:=Ylj [] (List.replicate 64 (Value.int .u8 0)) (List.replicate 64 (Value.int .u8 0)) R (by simp [hRl]);simp only [Yci,List.nil_append,List.length_nil,Nat.zero_mul] at this ⊢;rw [this,←hR];rfl
    | 1,_=>
     have:=Ylj (Yay D ws A) (List.replicate 64 (Value.int .u8 0)) [] R (by simp [hRl]);simp only [Yci,List.append_nil,l0,Nat.one_mul] at this ⊢;rw [this,←hR]
   have hT:wr.there (w.heap.size+1) (k*64) R.toArray.size:=Yiq hc1 _ _ (by rw [List.size_toArray,List.size_toArray,hs128,hRl];omega);have HT:Hid (∀ W,Below wr.heap.size wr W→W.there (w.heap.size+1) (k*64) R.toArray.size):=fun W hW=>Yiq ((hW.block _ (Yaj hc1)).trans hc1) _ _ (by rw [List.size_toArray,List.size_toArray,hs128,hRl];omega)
   have hw1:IntKind.i64.wrap ((A:Int)+(k:Int))=(A:Int)+(k:Int):=by rw [IntKind.wrap_i64];omega
   have hAk:A+k<434:=Nat.lt_of_le_of_lt (Nat.add_le_add_left (Nat.le_of_lt_succ hlt) A) hA4;have hcast:((A+k:Nat):Int)=(A:Int)+(k:Int):=Int.natCast_add A k;have KR:∀ W,Below w.heap.size w W→Calls prog 107 #[.pointer (some ⟨db,0,none⟩),.int .i64 ((A:Int)+(k:Int))] W fun e w'=>e=.returned (.agg R.toArray)∧Below W.heap.size W w':=fun W hW=>by
    have:=HRD.out W hW (A+k) hAk;rw [hR,hcast] at this;exact this
   have HKR:=Yh KR;obtain ⟨hq1,hq2⟩:=HC.out wr hbw;have HBW:=Yh hbw;have HC1:=Yh hc1;have HC0:=Yh hc0;have hi:(prog.info? 98).map (·.size)=some R.length:=by rw [hRl];kernel_rfl
   clear KR hc1 hc0 hbw hR hs128 hp hv;have hT2:wr.drew.there (w.heap.size+1) (k*64) R.toArray.size:=hT;have hq3:wr.drew.cell? ⟨pb,o,none⟩=some (.pointer (some ⟨vb,0,none⟩)):=hq1;have hq4:wr.drew.cell? ⟨vb,0,none⟩=some (.pointer (some ⟨db,0,none⟩)):=hq2;have HPV:Hid (pb<w.heap.size∧vb<w.heap.size):=⟨hpw,hvw⟩;have HKL:=Yh hlt;clear l0 l1 hk hlt hAk hpw hvw hT hq1 hq2 hcast;go_wp2;go_region_held3 (fun w'=>w'.cell? ⟨pb,o,none⟩=some (.pointer (some ⟨vb,0,none⟩))∧w'.cell? ⟨vb,0,none⟩=some (.pointer (some ⟨db,0,none⟩))∧w'.there (w.heap.size+1) (k*64) R.toArray.size)
    (exact ⟨by assumption,by assumption,by assumption⟩)
    (first
     | (go_at_call 164;go_must (refine (HKP.out _).mono ?_;rintro e w' ⟨rfl,rfl⟩))
     | (go_at_call 107;go_must (
      refine (HKR.out _ HBW.out.drew).mono ?_;rintro e w2 ⟨rfl,hb2⟩;have HB2:Hid (Below wr.heap.size wr w2):=(Below.refl _ _).drew.trans hb2;obtain ⟨hr1,hr2⟩:=HC.out w2 (HBW.out.trans (HB2.out.mono HBW.out.size));have hr3:=HT.out w2 HB2.out;have hr4:(w2.setCells (w.heap.size+1) (k*64) R).cell? ⟨pb,o,none⟩=some (.pointer (some ⟨vb,0,none⟩)):=(World.cell?_of_block (Ygj R w2 _ _ pb (by have:=HPV.out.1;omega))).trans hr1;have hr5:(w2.setCells (w.heap.size+1) (k*64) R).cell? ⟨vb,0,none⟩=some (.pointer (some ⟨db,0,none⟩)):=(World.cell?_of_block (Ygj R w2 _ _ vb (by have:=HPV.out.2;omega))).trans hr2;have hr6:(w2.setCells (w.heap.size+1) (k*64) R).there (w.heap.size+1) (k*64) R.toArray.size:=World.there_setCells hr3 _ _ _;clear hb2)))
   all_goals
    go_wp2;have hkl:=HKL.out;have hbf:Below wr.heap.size wr w2:=HB2.out;have e1:w2.heap[w.heap.size+1]? = some (.cells (Yci (Yay D ws A) (Yay D ws (A+1)) k).toArray 256 (0,0)):=(hbf.block _ (Yaj HC1.out)).trans HC1.out;refine ⟨⟨k+1,by omega,by simp,?_,?_,?_⟩,by simp [intOf];omega⟩
    ·rw [Yhx R w2 _ _ _ _ e1,HNX.out]
    ·exact (Ygj R w2 _ _ _ (by omega)).trans ((hbf.block _ (Yaj HC0.out)).trans HC0.out)
    ·exact (HBW.out.trans (hbf.mono HBW.out.size)).trans (Yi1 R w2 _ _ (by omega))
  ·obtain rfl:k=2:=by omega
   obtain ⟨R,hR⟩:∃ R,Yay D ws A ++ Yay D ws (A+1)=R:=⟨_,rfl⟩;have hR2:Yci (Yay D ws A) (Yay D ws (A+1)) 2=R:=hR;have hRl:R.length=128:=by rw [←hR,List.length_append,l0,l1]
   have hR1:∀ u∈R,u.oneCell'=true:=by
    rw [←hR];exact fun u hu=>(List.mem_append.1 hu).elim (fun h=>Ykb (HY0.out u h)) (fun h=>Ykb (HY1.out u h))
   rw [hR2] at hc1;have HRR:=Yh hR;have hrg:wr.rangeAt (w.heap.size+1) 0 R:=fun j u hu=>by rw [Nat.zero_add];exact Yaa hc1 (by simpa using hu)
   have hi:(prog.info? 256).map (·.size)=some R.length:=by rw [hRl];kernel_rfl
   have HC0:=Yh hc0;have HBW:=Yh hbw;have HFIN:Hid ((wr.setRow w.heap.size R.toArray).heap[w.heap.size]? = some (.cells R.toArray 256 (0,0))):=setRow_heap wr w.heap.size _ R.toArray _ (0,0) hc0;have HBF:Hid (Below w.heap.size w (wr.setRow w.heap.size R.toArray)):=hbw.trans (Ylk wr _ _);clear hc0 hc1 hbw hR hR2 hp hv HRD HC HKP l0 l1;go_wp2_with (first
    | (refine wpList_load_mid rfl 256 (.tmp 7) rfl (w.heap.size+1) 0 (by rfl) R _ hrg underlying256 rfl hi ?_)
    | (
     refine wpList_store_row rfl 256 (.tmp 6) (.tmp 28) rfl w.heap.size R.toArray (by rfl) (by rfl) 256 _ HC0.out (by simpa using hi) ?ho (all_oneCell_toArray hR1) ?_
     case ho=>simp [Yci,hRl]))
   exact bodyPost_ret (results_cell_row Tryz.results189 _ _ w.heap.size 256 R.toArray (0,0) _ rfl HFIN.out underlying256 rfl (by simpa using hi)) rfl ⟨by rw [HRR.out],HBF.out⟩
theorem Ynp (a:Int) (w:World):Calls prog 222 #[.int .u32 a] w fun e w'=>e=.returned (.bool false)∧w=w':=by
 go_enter func222,ntmps222;go_wp2;go_ret;exact ⟨rfl,rfl⟩
def Yev (a b:Int):Int:=if a<b then -1 else if b<a then 1 else 0
theorem Yrd (a b:Int) (w:World):Calls prog 200 #[.int .u32 a,.int .u32 b] w fun e w'=>e=.returned (.int .i64 (Yev a b))∧w=w':=by
 by_cases h1:a<b
 ·have ec:Yev a b = -1:=by simp [Yev,h1]
  go_enter func200,ntmps200;go_wp2_with (first | (go_at_call 222;refine (Ynp _ _).mono ?_;rintro e w' ⟨rfl,rfl⟩))
  go_ret;exact ⟨by rw [ec];rfl,rfl⟩
 ·by_cases h2:b<a
  ·have ec:Yev a b=1:=by simp [Yev,h1,h2]
   go_enter func200,ntmps200;go_wp2_with (first | (go_at_call 222;refine (Ynp _ _).mono ?_;rintro e w' ⟨rfl,rfl⟩))
   go_ret;exact ⟨by rw [ec];rfl,rfl⟩
  ·have ec:Yev a b=0:=by simp [Yev,h1,h2]
   go_enter func200,ntmps200;go_wp2_with (first | (go_at_call 222;refine (Ynp _ _).mono ?_;rintro e w' ⟨rfl,rfl⟩))
   go_ret;exact ⟨by rw [ec];rfl,rfl⟩
def orI (a b:Int):Int:=if a=0 then b else a
theorem Yxt (g:Nat) (a b:Int) (w:World) (h0:w.cell? ⟨g,0,none⟩=some (.int .i64 a)) (h1:w.cell? ⟨g,1,none⟩=some (.int .i64 b)):
 Calls prog 199 #[.slice (some ⟨g,0,none⟩) 2 2] w fun e w'=>e=.returned (.int .i64 (orI a b))∧w=w':=by
 go_enter func199,ntmps199
 go_wp2
 go_loopw [8] (fun i wr=>∃ k:Nat,k≤2∧i=.int .i64 k∧wr=w∧(0<k→a=0)∧(1<k→b=0)) (fun i _=>2 - (intOf i).toNat)
 case atStart=>exact ⟨0,by omega,rfl,rfl,by omega,by omega⟩
 case round=>
  obtain ⟨k,hk,rfl,rfl,ha,hb⟩:=hrel;match k,hk,ha,hb with
  | 0,_,_,_=>
   by_cases hz:a=0
   ·subst hz
    go_wp2;exact ⟨⟨1,by omega,rfl,by simp,by simp,by omega⟩,by simp [intOf]⟩
   ·have hz':(a == 0)=false:=by simpa using hz
    go_wp2;go_ret;exact ⟨by simp [orI,hz],rfl⟩
  | 1,_,ha,_=>
   have ha0:=ha (by omega);subst ha0;by_cases hz:b=0
   ·subst hz
    go_wp2;exact ⟨⟨2,by omega,rfl,by simp,by simp,by simp⟩,by simp [intOf]⟩
   ·have hz':(b == 0)=false:=by simpa using hz
    go_wp2;go_ret;exact ⟨by simp [orI],rfl⟩
  | 2,_,ha,hb=>
   have ha0:=ha (by omega);have hb0:=hb (by omega);subst ha0 hb0;go_wp2;go_ret;exact ⟨by simp [orI],rfl⟩
def Yea (a b c d:Int):Bool:=decide (0<orI (Yev a c) (Yev b d))
theorem Yre (a b c d:Int) (w:World):
 Calls prog 150 #[.agg #[.int .u32 a,.int .u32 b],.agg #[.int .u32 c,.int .u32 d]] w fun e w'=>e=.returned (.bool (Yea a b c d))∧Below w.heap.size w w':=by
 obtain ⟨x,hx⟩:∃ x,Yev a c=x:=⟨_,rfl⟩
 obtain ⟨y,hy⟩:∃ y,Yev b d=y:=⟨_,rfl⟩
 have K1:=fun w=>Yrd a c w
 have K2:=fun w=>Yrd b d w
 rw [hx] at K1
 rw [hy] at K2
 have hab:Yea a b c d=decide (0<orI x y):=by rw [Yea,hx,hy]
 obtain ⟨z,hz⟩:∃ z,orI x y=z:=⟨_,rfl⟩
 rw [hz] at hab
 have HAB:=Yh hab
 have HZ:=Yh hz
 have HK1:=Yh K1
 have HK2:=Yh K2
 have tok1:True:=trivial
 have tok2:True:=trivial
 clear hx hy K1 K2 hab hz
 go_enter func150,ntmps150
 go_wp2
 obtain ⟨W1,hW1⟩:∃ W1,(w.alloc (.cells #[.int .u32 a,.int .u32 b] 168)).alloc (.cells #[.int .u32 c,.int .u32 d] 168)=W1:=⟨_,rfl⟩
 have b0:W1.heap[w.heap.size]? = some (.cells #[.int .u32 a,.int .u32 b] 168 (0,0)):=by rw [←hW1,Below.heap_alloc _ _ _ (by simp)];exact heap_alloc_new w _
 have b1:W1.heap[w.heap.size+1]? = some (.cells #[.int .u32 c,.int .u32 d] 168 (0,0)):=by rw [←hW1];exact Yi2 w _ _
 have HB1:Hid (Below w.heap.size w W1):=by show Below _ _ _;rw [←hW1];exact ((Below.refl _ w).alloc (Nat.le_refl _) _).alloc (by simp) _
 rw [hW1]
 clear hW1
 have c1:=Yaa (j:=0) b0 rfl
 have c2:=Yaa (j:=1) b0 rfl
 have c3:=Yaa (j:=0) b1 rfl
 have c4:=Yaa (j:=1) b1 rfl
 clear b0 b1
 go_region_held3 (fun w'=>w'.cell? ⟨w.heap.size,0,none⟩=some (.int .u32 a)∧w'.cell? ⟨w.heap.size,1,none⟩=some (.int .u32 b)∧w'.cell? ⟨w.heap.size+1,0,none⟩=some (.int .u32 c)∧w'.cell? ⟨w.heap.size+1,1,none⟩=some (.int .u32 d))
  (go_keep)
  (first
   | (go_at_call 200;have _t:=tok1;go_must (refine (HK1.out _).mono ?_;rintro e w' ⟨rfl,rfl⟩;clear tok1))
   | (go_at_call 200;have _t:=tok2;go_must (refine (HK2.out _).mono ?_;rintro e w' ⟨rfl,rfl⟩;clear tok2))
   | (go_at_call 199;go_must (
    refine (Yxt W1.heap.size x y (W1.drew.alloc (.cells #[.int .i64 x,.int .i64 y] 3)) (Yaa (heap_alloc_new W1.drew _) rfl) (Yaa (heap_alloc_new W1.drew _) rfl)).mono ?_;rintro e w' ⟨rfl,rfl⟩;rw [HZ.out])))
 all_goals
  go_wp2;go_ret;exact ⟨by rw [HAB.out];rfl,(HB1.out.alloc HB1.out.size _).drew⟩
structure Ybq where
 (a b:Int)
 (k1 v1 k2 v2 k3 v3 k4 v4:ByteArray)
def Ybq.Fits (c:Ybq):Prop:=(0≤c.a∧c.a<4294967295∧0≤c.b∧c.b<4294967296)∧c.k1.size≤8∧c.v1.size≤12∧c.k2.size≤8∧c.v2.size≤12∧c.k3.size≤8∧c.v3.size≤12∧c.k4.size≤8∧c.v4.size≤12
def Ybq.pairs (c:Ybq):Yaf:=Ycq c.k1 c.v1 c.k2 c.v2 2 ++ Ycq c.k3 c.v3 c.k4 c.v4 2
def Yll (D:Array Value) (ws:List (Nat×List Value)) (n t:Nat) (c:Ybq):Prop:=
 Yay D ws (2+(n*2+t)*2)=Yam c.a c.b (Ybz c.k1 c.v1 c.k2 c.v2)∧Yay D ws (2+(n*2+t)*2+1)=Yam c.a c.b (Ybz c.k3 c.v3 c.k4 c.v4)
theorem Yxu (b2 b3 pb o vb db n t:Nat) (D:Array Value) (ws:List (Nat×List Value)) (v:Value) (c:Ybq) (w:World) (hn:n<8) (ht:t<2) (h2:w.cell? ⟨b2,0,none⟩=some (.pointer (some ⟨pb,o,none⟩))) (h3:w.cell? ⟨b3,0,none⟩=some (.int .i64 (n:Int))) (hb2:b2<w.heap.size) (hb3:b3<w.heap.size)
 (hp:w.cell? ⟨pb,o,none⟩=some (.pointer (some ⟨vb,0,none⟩))) (hv:w.cell? ⟨vb,0,none⟩=some (.pointer (some ⟨db,0,none⟩))) (hpw:pb<w.heap.size) (hvw:vb<w.heap.size) (hd:Yen w db D ws v) (hc:Yll D ws n t c) (hf:c.Fits):
 Calls prog 187 #[.int .i64 (t:Int),.pointer (some ⟨b2,0,none⟩),.pointer (some ⟨b3,0,none⟩)] w fun e w'=>∃ x,e=.returned (.tuple #[.agg #[.int .u32 c.a,.int .u32 c.b],x,.bool true]) ∧
  w'.ownsRow w.heap.size 43 2 x c.pairs.length (Yad c.pairs)∧Below w.heap.size w w':=by
 have HB:Hid (∀ o,Below w.heap.size w (w.alloc o)):=fun o=>(Below.refl _ w).alloc (Nat.le_refl _) _
 have KR:∀ o',Calls prog 189 #[.pointer (some ⟨pb,o,none⟩),.int .i64 (n:Int),.int .i64 (t:Int)] (w.alloc o') fun e w'=>e=.returned (.agg (Yam c.a c.b (Ybz c.k1 c.v1 c.k2 c.v2) ++ Yam c.a c.b (Ybz c.k3 c.v3 c.k4 c.v4)).toArray)∧Below (w.alloc o').heap.size (w.alloc o') w':=fun o'=>by
  have hb:=HB.out o';have:=Yxs pb o vb db n t D ws v (w.alloc o') hn ht ((hb.cell (p:=⟨pb,o,none⟩) hpw).trans hp) ((hb.cell (p:=⟨vb,0,none⟩) hvw).trans hv) (by simp;omega) (by simp;omega) (hd.below hb);rw [hc.1,hc.2] at this;exact this
 obtain ⟨⟨f1,f2,f3,f4⟩,g1,g2,g3,g4,g5,g6,g7,g8⟩:=hf
 have KU:=fun w=>Yxr c.a c.b c.k1 c.v1 c.k2 c.v2 c.k3 c.v3 c.k4 c.v4 w f1 f2 f3 f4 g1 g2 g3 g4 g5 g6 g7 g8
 have hcp:c.pairs=Ycq c.k1 c.v1 c.k2 c.v2 2 ++ Ycq c.k3 c.v3 c.k4 c.v4 2:=rfl
 rw [←hcp] at KU
 have HKR:=Yh KR
 have HKU:=Yh KU
 generalize (Yam c.a c.b (Ybz c.k1 c.v1 c.k2 c.v2) ++ Yam c.a c.b (Ybz c.k3 c.v3 c.k4 c.v4)).toArray=S at HKR HKU
 clear KR KU hcp hd hc hp hv
 go_enter func187,ntmps187
 go_wp2_with (first
  | (go_at_call 189;go_must (
   refine (HKR.out _).mono ?_;rintro e w1 ⟨rfl,hb1⟩;have HB1:Hid (Below (w.heap.size+1) (w.alloc (.cells #[.int .u32 0,.int .u32 0] 168)) w1):=by show Below _ _ _;simpa using hb1
   clear hb1))
  | (go_at_call 188;go_must (
   refine (HKU.out _).mono ?_;rintro e w2 ⟨x,rfl,hx,hbb⟩;have HB2:Hid (Below (w.heap.size+1) (w.alloc (.cells #[.int .u32 0,.int .u32 0] 168)) w2):=HB1.out.trans (hbb.mono (by have:=HB1.out.size;simp at this;omega));have HX:Hid (w2.ownsRow (w.heap.size+1) 43 2 x c.pairs.length (Yad c.pairs)):=Yeu hx (by have:=HB1.out.size;simp at this;omega);have q:=(HB2.out.block w.heap.size (by omega)).trans (heap_alloc_new w _);have HQ:=Yh q;have c0:=Yaa (j:=0) q rfl;have c1:=Yaa (j:=1) q rfl;have e0:=Yah 0 q;have e1:=Yah 1 q;clear hbb hx q)))
 have k3:=Yak _ w.heap.size 1 (.int .u32 c.b) _ 168 (Yak w2 w.heap.size 0 (.int .u32 c.a) _ 168 HQ.out)
 have m0:=Yaa (j:=0) k3 rfl
 have m1:=Yaa (j:=1) k3 rfl
 refine bodyPost_ret (v:=.tuple #[.agg #[.int .u32 c.a,.int .u32 c.b],x,.bool true]) ?_ rfl ⟨x,rfl,?_,?_⟩
 ·simp [results,Tryz.results187,go_sem,m0,m1]
 ·refine Yeu (Yda (w:=w2) HX.out (fun g hg=>?_)) (show w.heap.size≤w.heap.size+1 by omega)
  have:=(HX.out.lt g hg).1;exact (Below.heap_setCell _ _ _ _ (show g≠w.heap.size by omega)).trans (Below.heap_setCell _ _ _ _ (show g≠w.heap.size by omega))
 ·exact (((HB.out _).trans (HB2.out.mono (by omega))).setCell (p:=⟨w.heap.size,0,none⟩) (by simp) _).setCell (p:=⟨w.heap.size,1,none⟩) (by simp) _
structure Ya3 where
 at':Nat
 rec':Yaf
 found:Bool
 (a b:Int)
def Ya3.start:Ya3:=⟨1,[],false,0,0⟩
def Ya3.step (s:Ya3) (t:Nat) (c:Ybq):Ya3:=if Yea c.a c.b s.a s.b=true then ⟨t,c.pairs,true,c.a,c.b⟩ else s
def Ya3.of (c0 c1:Ybq):Nat→Ya3
 | 0=>.start
 | 1=>Ya3.start.step 0 c0
 | _=>(Ya3.start.step 0 c0).step 1 c1
theorem Yxv (f:Value) (b2 b3:Nat) (c0 c1:Ybq) (w:World) (hfv:f=.func (.func 187) #[] #[.pointer (some ⟨b2,0,none⟩),.pointer (some ⟨b3,0,none⟩)])
 (h0:∀ W,Below w.heap.size w W→Calls prog 187 #[.int .i64 0,.pointer (some ⟨b2,0,none⟩),.pointer (some ⟨b3,0,none⟩)] W fun e w'=>∃ x,e=.returned (.tuple #[.agg #[.int .u32 c0.a,.int .u32 c0.b],x,.bool true])∧w'.ownsRow W.heap.size 43 2 x c0.pairs.length (Yad c0.pairs)∧Below W.heap.size W w')
 (h1:∀ W,Below w.heap.size w W→Calls prog 187 #[.int .i64 1,.pointer (some ⟨b2,0,none⟩),.pointer (some ⟨b3,0,none⟩)] W fun e w'=>∃ x,e=.returned (.tuple #[.agg #[.int .u32 c1.a,.int .u32 c1.b],x,.bool true])∧w'.ownsRow W.heap.size 43 2 x c1.pairs.length (Yad c1.pairs)∧Below W.heap.size W w'):
 Calls prog 186 #[f] w fun e w'=>∃ x,e=.returned (.tuple #[.int .i64 ((Ya3.of c0 c1 2).at':Int),x,.bool (Ya3.of c0 c1 2).found]) ∧
  w'.ownsRow w.heap.size 43 2 x (Ya3.of c0 c1 2).rec'.length (Yad (Ya3.of c0 c1 2).rec')∧Below w.heap.size w w':=by
 subst hfv
 have H0:=Yh h0
 have H1:=Yh h1
 clear h0 h1
 go_enter func186,ntmps186
 go_wp2
 go_loopw [2,3,4,10] (fun at' x found i wr=>∃ k:Nat,k≤2∧i=.int .i64 k∧at'=.int .i64 ((Ya3.of c0 c1 k).at':Int)∧found=.bool (Ya3.of c0 c1 k).found∧wr.ownsRow (w.heap.size+1) 43 2 x (Ya3.of c0 c1 k).rec'.length (Yad (Ya3.of c0 c1 k).rec') ∧
  wr.heap[w.heap.size]? = some (.cells #[.int .u32 (Ya3.of c0 c1 k).a,.int .u32 (Ya3.of c0 c1 k).b] 168 (0,0))∧Below w.heap.size w wr) (fun _ _ _ i _=>2 - (intOf i).toNat)
 case atStart=>exact ⟨0,by omega,rfl,rfl,rfl,World.ownsRow_nil _ _ _ _,heap_alloc_new w _,(Below.refl _ w).alloc (Nat.le_refl _) _⟩
 case round=>
  obtain ⟨k,hk,rfl,rfl,rfl,hown,hst,hbw⟩:=hrel;by_cases hlt:k<2
  ·have hlt':(k:Int)<2:=by omega
   obtain ⟨c,hKC,hnx⟩:∃ c:Ybq,(∀ W,Below w.heap.size w W→Calls prog 187 #[.int .i64 (k:Int),.pointer (some ⟨b2,0,none⟩),.pointer (some ⟨b3,0,none⟩)] W fun e w'=>∃ x,e=.returned (.tuple #[.agg #[.int .u32 c.a,.int .u32 c.b],x,.bool true])∧w'.ownsRow W.heap.size 43 2 x c.pairs.length (Yad c.pairs)∧Below W.heap.size W w')∧Ya3.of c0 c1 (k+1)=(Ya3.of c0 c1 k).step k c:=by
    match k,hlt with
    | 0,_=>exact ⟨c0,H0.out,rfl⟩
    | 1,_=>exact ⟨c1,H1.out,rfl⟩
   have HNX:=Yh hnx;have HKC:=Yh hKC;generalize Ya3.of c0 c1 k=s at HNX hown hst;obtain ⟨sat,srec,sfound,sa,sb⟩:=s;simp only at hown hst;have HOW:=Yh hown;have HST:=Yh hst;have HBW:=Yh hbw;have hlw:w.heap.size<wr.heap.size:=Yaj hst;clear hnx hKC hown hst hbw
   cases hab:Yea c.a c.b sa sb with
   | true=>
    have KA:=fun w=>Yre c.a c.b sa sb w
    rw [hab] at KA;have HKA:=Yh KA;have HS:Hid (Ya3.of c0 c1 (k+1)=⟨k,c.pairs,true,c.a,c.b⟩):=by show _=_;rw [HNX.out,Ya3.step];simp [hab]
    clear KA hab;go_wp2_with (first
     | (go_at_call 187;go_must (
      refine (HKC.out wr HBW.out).mono ?_;rintro e w2 ⟨x2,rfl,hx2,hb2⟩;have HX2:Hid (w2.ownsRow (w.heap.size+1) 43 2 x2 c.pairs.length (Yad c.pairs)):=Yeu hx2 (by omega);have HB2:=Yh hb2;have q:=(hb2.block _ hlw).trans HST.out;have d0:=Yaa (j:=0) q rfl;have d1:=Yaa (j:=1) q rfl;have g0:=Yah 0 q;have g1:=Yah 1 q;have HQ:=Yh q;have hl2:w.heap.size<w2.heap.size:=by have:=hb2.size;omega
      clear hx2 hb2 q))
     | (go_at_call 150;go_must (
      refine (HKA.out _).mono ?_;rintro e w3 ⟨rfl,hb3⟩;have HB3:=Yh hb3;clear hb3)))
    have hb3:=HB3.out;have q1:w3.heap[w2.heap.size]? = some (.cells #[.int .u32 c.a,.int .u32 c.b] 168 (0,0)):=(hb3.block _ (by simp)).trans (heap_alloc_new w2 _);have q0:w3.heap[w.heap.size]? = some (.cells #[.int .u32 sa,.int .u32 sb] 168 (0,0)):=(hb3.block _ (by simp;omega)).trans ((Below.heap_alloc _ _ _ hl2).trans HQ.out);have c5:=Yaa (j:=0) q1 rfl;have c6:=Yaa (j:=1) q1 rfl;have d5:=Yaa (j:=0) q0 rfl;have d6:=Yaa (j:=1) q0 rfl;have g5:=Yah 0 q0;have g6:=Yah 1 q0;have HQ0:=Yh q0;have HB4:Hid (Below w.heap.size w w3):=(HBW.out.trans (HB2.out.mono HBW.out.size)).trans (((Below.refl _ w2).alloc (by omega) _).trans (hb3.mono (by simp;omega)));have HX3:Hid (w3.ownsRow (w.heap.size+1) 43 2 x2 c.pairs.length (Yad c.pairs)):=Ybe (HX2.out.alloc _) hb3 (fun g hg=>by have:=(HX2.out.lt g hg).2;simp;omega);clear hb3 q1 q0 d0 d1 g0 g1;go_region
    all_goals
     go_wp2;refine ⟨⟨k+1,by omega,by simp,?_,?_,?_,?_,?_⟩,by simp [intOf];omega⟩
     ·rw [HS.out]
     ·rw [HS.out]
     ·rw [HS.out]
      refine Yda (w:=w3) HX3.out (fun g hg=>?_);have:=(HX3.out.lt g hg).1;exact (Below.heap_setCell _ _ _ _ (show g≠w.heap.size by omega)).trans (Below.heap_setCell _ _ _ _ (show g≠w.heap.size by omega))
     ·rw [HS.out]
      exact Yak _ w.heap.size 1 (.int .u32 c.b) _ 168 (Yak w3 w.heap.size 0 (.int .u32 c.a) _ 168 HQ0.out)
     ·exact ((HB4.out.setCell (p:=⟨w.heap.size,0,none⟩) (by simp) _).setCell (p:=⟨w.heap.size,1,none⟩) (by simp) _).drew
   | false=>
    have KA:=fun w=>Yre c.a c.b sa sb w
    rw [hab] at KA;have HKA:=Yh KA;have HS:Hid (Ya3.of c0 c1 (k+1)=⟨sat,srec,sfound,sa,sb⟩):=by show _=_;rw [HNX.out,Ya3.step];simp [hab]
    clear KA hab;go_wp2_with (first
     | (go_at_call 187;go_must (
      refine (HKC.out wr HBW.out).mono ?_;rintro e w2 ⟨x2,rfl,hx2,hb2⟩;have HX2:Hid (w2.ownsRow (w.heap.size+1) 43 2 x2 c.pairs.length (Yad c.pairs)):=Yeu hx2 (by omega);have HB2:=Yh hb2;have q:=(hb2.block _ hlw).trans HST.out;have d0:=Yaa (j:=0) q rfl;have d1:=Yaa (j:=1) q rfl;have g0:=Yah 0 q;have g1:=Yah 1 q;have HQ:=Yh q;have hl2:w.heap.size<w2.heap.size:=by have:=hb2.size;omega
      clear hx2 hb2 q))
     | (go_at_call 150;go_must (
      refine (HKA.out _).mono ?_;rintro e w3 ⟨rfl,hb3⟩;have HB3:=Yh hb3;clear hb3)))
    have hb3:=HB3.out;have q0:w3.heap[w.heap.size]? = some (.cells #[.int .u32 sa,.int .u32 sb] 168 (0,0)):=(hb3.block _ (by simp;omega)).trans ((Below.heap_alloc _ _ _ hl2).trans HQ.out);have hb4:Below w.heap.size w w3:=(HBW.out.trans (HB2.out.mono HBW.out.size)).trans (((Below.refl _ w2).alloc (by omega) _).trans (hb3.mono (by simp;omega)));have hx3:w3.ownsRow (w.heap.size+1) 43 2 u3 srec.length (Yad srec):=Ybe ((Ybe HOW.out HB2.out (fun g hg=>(HOW.out.lt g hg).2)).alloc _) hb3 (fun g hg=>by have:=(HOW.out.lt g hg).2;have:=HB2.out.size;simp;omega);refine ⟨⟨k+1,by omega,by simp,?_,?_,?_,?_,hb4⟩,by simp [intOf];omega⟩
    ·rw [HS.out]
    ·rw [HS.out]
    ·rw [HS.out];exact hx3
    ·rw [HS.out];exact q0
  ·obtain rfl:k=2:=by omega
   have HOW:=Yh hown;have HBW:=Yh hbw;clear hown hst hbw;go_wp2;refine bodyPost_ret (v:=.tuple #[.int .i64 ((Ya3.of c0 c1 2).at':Int),u3,.bool (Ya3.of c0 c1 2).found]) ?_ rfl ⟨_,rfl,Yeu HOW.out (by omega),HBW.out⟩;simp [results,Tryz.results186,go_sem]
def Ykc (D:Array Value) (ws:List (Nat×List Value)) (n:Nat) (c0 c1:Ybq):Prop:=Yll D ws n 0 c0∧Yll D ws n 1 c1∧c0.Fits∧c1.Fits
theorem Yxw (pb o vb db n:Nat) (D:Array Value) (ws:List (Nat×List Value)) (v:Value) (c0 c1:Ybq) (w:World) (hn:n<8)
 (hp:w.cell? ⟨pb,o,none⟩=some (.pointer (some ⟨vb,0,none⟩))) (hv:w.cell? ⟨vb,0,none⟩=some (.pointer (some ⟨db,0,none⟩))) (hpw:pb<w.heap.size) (hvw:vb<w.heap.size) (hd:Yen w db D ws v) (hc:Ykc D ws n c0 c1):
 Calls prog 143 #[.pointer (some ⟨pb,o,none⟩),.int .i64 (n:Int)] w fun e w'=>∃ g x,e=.returned (.pointer (some ⟨g,0,none⟩))∧w.heap.size≤g∧w'.heap[g]? = some (.cells #[.int .i64 ((Ya3.of c0 c1 2).at':Int),x] 180 (0,0)) ∧
  w'.ownsRow w.heap.size 43 2 x (Ya3.of c0 c1 2).rec'.length (Yad (Ya3.of c0 c1 2).rec')∧x.ownBlock≠some g∧Below w.heap.size w w':=by
 obtain ⟨hc0,hc1,hf0,hf1⟩:=hc
 obtain ⟨W1,hW1⟩:∃ W1,(w.alloc (.cells #[.pointer (some ⟨pb,o,none⟩)] 178)).alloc (.cells #[.int .i64 (n:Int)] 3)=W1:=⟨_,rfl⟩
 have hB1:Below w.heap.size w W1:=by rw [←hW1];exact ((Below.refl _ w).alloc (Nat.le_refl _) _).alloc (by simp) _
 have b0:W1.heap[w.heap.size]? = some (.cells #[.pointer (some ⟨pb,o,none⟩)] 178 (0,0)):=by rw [←hW1,Below.heap_alloc _ _ _ (by simp)];exact heap_alloc_new w _
 have b1:W1.heap[w.heap.size+1]? = some (.cells #[.int .i64 (n:Int)] 3 (0,0)):=by rw [←hW1];exact Yi2 w _ _
 have KL:∀ (t:Nat) (c:Ybq),t<2→Yll D ws n t c→c.Fits→∀ W,Below W1.heap.size W1 W→Calls prog 187 #[.int .i64 (t:Int),.pointer (some ⟨w.heap.size,0,none⟩),.pointer (some ⟨w.heap.size+1,0,none⟩)] W fun e w'=>∃ x,e=.returned (.tuple #[.agg #[.int .u32 c.a,.int .u32 c.b],x,.bool true])∧w'.ownsRow W.heap.size 43 2 x c.pairs.length (Yad c.pairs)∧Below W.heap.size W w':=fun t c ht hca hcf W hW=>by
  have hz:=Yaj b1;have hzz:=hW.size;have hbw:Below w.heap.size w W:=hB1.trans (hW.mono hB1.size);exact Yxu w.heap.size (w.heap.size+1) pb o vb db n t D ws v c W hn ht (Yaa ((hW.block _ (by omega)).trans b0) rfl) (Yaa ((hW.block _ hz).trans b1) rfl) (by omega) (by omega) ((hbw.cell (p:=⟨pb,o,none⟩) hpw).trans hp) ((hbw.cell (p:=⟨vb,0,none⟩) hvw).trans hv) (by omega) (by omega) (hd.below hbw) hca hcf
 have KN:=Yxv _ w.heap.size (w.heap.size+1) c0 c1 W1 rfl (KL 0 c0 (by omega) hc0 hf0) (KL 1 c1 (by omega) hc1 hf1)
 have HKN:=Yh KN
 have HB1:=Yh hB1
 generalize Ya3.of c0 c1 2=s at HKN ⊢
 clear KL KN b0 b1 hB1 hc0 hc1 hf0 hf1 hd hp hv
 go_enter func143,ntmps143
 go_wp2_with (first
  | (go_at_call 186;go_must (
   refine HKN.out.mono ?_;rintro e w2 ⟨x,rfl,hx,hb2⟩;obtain ⟨ad,cp,rfl⟩:=Yjt hx;have HX:Hid (w2.ownsRow w.heap.size 43 2 (.slice ad s.rec'.length cp) s.rec'.length (Yad s.rec')):=Yeu hx HB1.out.size;have HB2:Hid (Below w.heap.size w w2):=HB1.out.trans (hb2.mono HB1.out.size);clear hx hb2)))
 go_ret
 refine ⟨_,_,rfl,HB2.out.size,heap_alloc_new w2 _,HX.out.alloc _,fun e=>?_,HB2.out.alloc HB2.out.size _⟩
 have:=(HX.out.lt _ e).2
 omega
def Ybo (ps:Yaf) (j:Nat):ByteArray×ByteArray:=(ps[j]?).getD (ByteArray.empty,ByteArray.empty)
def Yfj (ps:Yaf):Yaf:=[Ybo ps 0,Ybo ps 1,Ybo ps 2,Ybo ps 3]
def Ybb (ps:Yaf) (i:Nat):List Value:=Ybz (Ybo ps (2*i)).1 (Ybo ps (2*i)).2 (Ybo ps (2*i+1)).1 (Ybo ps (2*i+1)).2
theorem Yh8 (h:∀ p∈ps,p.1.size≤8∧p.2.size≤12) (j:Nat):(Ybo ps j).1.size≤8∧(Ybo ps j).2.size≤12:=by
 unfold Ybo
 cases hj:ps[j]? with
 | none=>exact ⟨by simp,by simp⟩
 | some p=>exact h p (List.mem_of_getElem? hj)
theorem Ylm (h:∀ p∈ps,p.1.size≤8∧p.2.size≤12) (i:Nat):(Ybb ps i).length=44:=
 Yka _ _ _ _ (Yh8 h _).1 (Yh8 h _).2 (Yh8 h _).1 (Yh8 h _).2
def Ydz (ps:Yaf) (i:Nat):Nat→List Value
 | 0=>[]
 | j+1=>Ydz ps i j ++ Ya1 (Ybo ps (2*i+j)).1 8 ++ Ya1 (Ybo ps (2*i+j)).2 12
theorem Yln (ps:Yaf) (i:Nat):Ydz ps i 2=Ybb ps i:=by
 simp only [Ydz,Ybb,Ybz,List.nil_append,Nat.add_zero,List.append_assoc]
theorem Yi3 (ps:Yaf) (i:Nat):∀ u∈Ybb ps i,u.oneCell'=true:=fun u hu=>by
 simp only [Ybb,Ybz,List.mem_append] at hu;rcases hu with ((hu | hu) | hu) | hu <;> exact Ypk _ _ u hu
theorem Yrf {ps:Yaf} (h:∀ p∈ps,p.1.size≤8∧p.2.size≤12) (i:Nat):∀ j,(Ydz ps i j).length=22*j
 | 0=>rfl
 | j+1=>by
  have h1:=Yrf h i j;have h2:=Yh8 h (2*i+j);simp only [Ydz,List.length_append,Yky _ _ h2.1,Yky _ _ h2.2,h1];omega
theorem Yrg (ps:Yaf) (j:Nat) (hj:j<4):(Yad (Yfj ps))[j*2]? = some (.string (Ybo ps j).1)∧(Yad (Yfj ps))[j*2+1]? = some (.string (Ybo ps j).2):=by
 have h:j=0∨j=1∨j=2∨j=3:=by omega
 rcases h with rfl | rfl | rfl | rfl <;> exact ⟨rfl,rfl⟩
theorem Yxx {P:Program} (w:World) (dT sT ty elem:TypeId) (size b o dLen dCap:Nat) (hu:P.underlying dT=some (.slice elem)) (hs:(P.info? elem).map (·.size)=some size):
 (Builtin.copy_ #[dT,sT] ty #[.slice (some ⟨b,o,none⟩) dLen dCap,.slice none 0 0]).run P w=.ok (goInt 0) w:=by
 have hst:=run_storeCells_cells (P:=P) b o [] 0 w (by simp) (by simp) (by simp)
 cases hq:P.info? elem with
 | none=>simp [hq] at hs
 | some i=>
  simp [Builtin.copy_,run_underlying hu,Builtin.lenOf,Builtin.firstCells,sizeOf,typeInfo,hq];rw [hst];rfl
theorem Ynq:∀ (S:List Value) (w:World) (b o:Nat),(w.setCells b o S).heap.size=w.heap.size
 | [],_,_,_=>rfl
 | u :: r,w,b,o=>by
  show ((w.setCell ⟨b,o,none⟩ u).setCells b (o+1) r).heap.size=_;rw [Ynq r];simp
theorem Yxy:∀ (ps:Yaf),ps.length≤4→Ycg (#[.string ByteArray.empty,.string ByteArray.empty,.string ByteArray.empty,.string ByteArray.empty,.string ByteArray.empty,.string ByteArray.empty,.string ByteArray.empty,.string ByteArray.empty]:Array Value) 0 (Yad ps)=(Yad (Yfj ps)).toArray
 | [],_=>by simp [Ycg,Yad,Yfj,Ybo]
 | [_],_=>by simp [Ycg,Yad,Yfj,Ybo]
 | [_,_],_=>by simp [Ycg,Yad,Yfj,Ybo]
 | [_,_,_],_=>by simp [Ycg,Yad,Yfj,Ybo]
 | [_,_,_,_],_=>by simp [Ycg,Yad,Yfj,Ybo]
 | _ :: _ :: _ :: _ :: _ :: _,h=>by simp at h
theorem Yxz {base:Nat} (hown:w.ownsRow base 43 2 v ps.length (Yad ps)) (hl:ps.length≤4) (g:Nat) (hg:w.heap[g]? = some (.cells #[.string ByteArray.empty,.string ByteArray.empty,.string ByteArray.empty,.string ByteArray.empty,.string ByteArray.empty,.string ByteArray.empty,.string ByteArray.empty,.string ByteArray.empty] 300 (0,0))) (ty:TypeId):
 ∃ w' x,(Builtin.copy_ #[34,34] ty #[.slice (some ⟨g,0,none⟩) 4 4,v]).run prog w=.ok x w'∧w'.heap[g]? = some (.cells (Yad (Yfj ps)).toArray 300 (0,0))∧(∀ k,k≠g→w'.heap[k]? = w.heap[k]?)∧w'.heap.size=w.heap.size∧Below g w w':=by
 have hszM:(prog.info? 43).map (·.size)=some 2:=by kernel_rfl
 rcases hown.2 with ⟨rfl,h0⟩ | ⟨gb,cap,cur,rfl,_,hgb,_,_,_,hcur⟩
 ·have hps:ps=[]:=List.length_eq_zero_iff.1 h0
  subst hps;exact ⟨w,_,Yxx w _ _ ty 43 2 g 0 4 4 underlying34 hszM,hg,fun _ _=>rfl,rfl,Below.refl _ _⟩
 ·have hpl:=Yds ps
  refine ⟨w.setCells g 0 (Yad ps),_,Yj4 w _ _ ty 43 2 g 0 4 4 ⟨gb,0,none⟩ ps.length cap ps.length (Yad ps) underlying34 hszM (by simp only [Nat.min_def];split <;> omega) hpl (fun j u hj=>?_) (fun j hj=>?_) (fun j hj=>Yah _ hg) (Yjx _),?_,fun k hk=>Ygj _ _ _ _ _ hk,?_,Yi1 _ _ _ _ (Nat.le_refl _)⟩
  ·rw [Ydg]
   refine Yaa hgb ?_;rw [←hcur,List.getElem?_take] at hj;split at hj
   ·simpa using hj
   ·cases hj
  ·rw [Nat.zero_add]
   have hj':j<8:=by omega
   have:j=0∨j=1∨j=2∨j=3∨j=4∨j=5∨j=6∨j=7:=by omega
   rcases this with rfl | rfl | rfl | rfl | rfl | rfl | rfl | rfl <;> (rw [Yaa hg rfl];rfl)
  ·rw [Yhx _ _ _ _ _ _ hg,Yxy ps hl]
  ·exact Ynq _ _ _ _
def Yf4 (a b:Int) (ps:Yaf) (k:Nat):List Value:=Yci (Yam a b (Ybb ps 0)) (Yam a b (Ybb ps 1)) k
structure Pk (w wr:World) (a b:Int) (ps:Yaf) (k:Nat):Prop where
 g0:wr.heap[w.heap.size]? = some (.cells #[.int .u32 a,.int .u32 b] 168 (0,0))
 g1:wr.heap[w.heap.size+1]? = some (.cells (Yci [] [] 0).toArray 256 (0,0))
 g2:wr.heap[w.heap.size+1+1]? = some (.cells (Yad (Yfj ps)).toArray 300 (0,0))
 g3:wr.heap[w.heap.size+3]? = some (.cells (Yf4 a b ps k).toArray 256 (0,0))
 size:w.heap.size+4≤wr.heap.size
 below:Below w.heap.size w wr
theorem Pk.next {W:World} {b:Int} (h:Pk w wr a b ps k) (hb:Below (w.heap.size+4) wr W):Pk w W a b ps k:=
 ⟨(hb.block _ (by omega)).trans h.g0,(hb.block _ (by omega)).trans h.g1,(hb.block _ (by omega)).trans h.g2,(hb.block _ (by omega)).trans h.g3,by have:=hb.size;have:=h.size;omega,h.below.trans (hb.mono (by omega))⟩
theorem Pk.slot0 {b:Int} (h:Pk w wr a b ps k) (j:Nat) (hj:j<2):wr.cell? ⟨w.heap.size+1+1,j*2,none⟩=some (.string (Ybo ps (2*0+j)).1)∧wr.cell? ⟨w.heap.size+1+1,j*2+1,none⟩=some (.string (Ybo ps (2*0+j)).2):=by
 obtain ⟨h1,h2⟩:=Yrg ps j (by omega);rw [show 2*0+j=j by omega];exact ⟨Yaa h.g2 (by simpa using h1),Yaa h.g2 (by simpa using h2)⟩
theorem Pk.slot1 {b:Int} (h:Pk w wr a b ps k) (j:Nat) (hj:j<2):wr.cell? ⟨w.heap.size+1+1,4+j*2,none⟩=some (.string (Ybo ps (2*1+j)).1)∧wr.cell? ⟨w.heap.size+1+1,4+j*2+1,none⟩=some (.string (Ybo ps (2*1+j)).2):=by
 obtain ⟨h1,h2⟩:=Yrg ps (2*1+j) (by omega);rw [show (2*1+j)*2=4+j*2 by omega] at h1 h2;exact ⟨Yaa h.g2 (by simpa using h1),Yaa h.g2 (by simpa using h2)⟩
theorem Yx0 (a b:Int) (base:Nat) (v:Value) (ps:Yaf) (w:World) (ha:0≤a) (ha':a<4294967296) (hb:0≤b) (hb':b<4294967296) (hown:w.ownsRow base 43 2 v ps.length (Yad ps)) (hl:ps.length≤4) (hsz:∀ p∈ps,p.1.size≤8∧p.2.size≤12):
 Calls prog 165 #[.agg #[.int .u32 a,.int .u32 b],v] w fun r w'=>r=.returned (.agg (Yam a b (Ybb ps 0) ++ Yam a b (Ybb ps 1)).toArray)∧Below w.heap.size w w':=by
 have HSL:Hid (∀ i,(Yam a b (Ybb ps i)).length=64∧∀ u∈Yam a b (Ybb ps i),u.oneCell'=true):=fun i=>⟨Yeh _ _ _ (by rw [Ylm hsz];omega),Yfy _ _ _ (Yi3 ps i)⟩
 have HTL:Hid (∀ i j,(Ydz ps i j).length=22*j):=fun i j=>Yrf hsz i j
 have HFT:Hid (∀ j,(Ybo ps j).1.size≤8∧(Ybo ps j).2.size≤12):=Yh8 hsz
 obtain ⟨W3,hW3⟩:∃ W3,W3=((w.alloc (.cells #[.int .u32 a,.int .u32 b] 168)).alloc (.cells Tryz.zeroCells256 256)).alloc (.cells #[.string ⟨#[]⟩,.string ⟨#[]⟩,.string ⟨#[]⟩,.string ⟨#[]⟩,.string ⟨#[]⟩,.string ⟨#[]⟩,.string ⟨#[]⟩,.string ⟨#[]⟩] 300):=⟨_,rfl⟩
 have hz3:W3.heap.size=w.heap.size+3:=by rw [hW3];simp
 have hB3:Below w.heap.size w W3:=by rw [hW3];exact (((Below.refl _ w).alloc (Nat.le_refl _) _).alloc (by simp) _).alloc (by simp;omega) _
 have g0:W3.heap[w.heap.size]? = some (.cells #[.int .u32 a,.int .u32 b] 168 (0,0)):=by
  rw [hW3,Below.heap_alloc _ _ _ (by simp;omega),Below.heap_alloc _ _ _ (by simp)];exact heap_alloc_new _ _
 have g1:W3.heap[w.heap.size+1]? = some (.cells (Yci [] [] 0).toArray 256 (0,0)):=by
  rw [hW3,Below.heap_alloc _ _ _ (by simp),←Yno];exact Yi2 w _ _
 have g2:W3.heap[w.heap.size+1+1]? = some (.cells #[.string ByteArray.empty,.string ByteArray.empty,.string ByteArray.empty,.string ByteArray.empty,.string ByteArray.empty,.string ByteArray.empty,.string ByteArray.empty,.string ByteArray.empty] 300 (0,0)):=by
  have e9:=heap_alloc_new ((w.alloc (.cells #[.int .u32 a,.int .u32 b] 168)).alloc (.cells Tryz.zeroCells256 256)) (.cells #[.string ⟨#[]⟩,.string ⟨#[]⟩,.string ⟨#[]⟩,.string ⟨#[]⟩,.string ⟨#[]⟩,.string ⟨#[]⟩,.string ⟨#[]⟩,.string ⟨#[]⟩] 300);have e8:((w.alloc (.cells #[.int .u32 a,.int .u32 b] 168)).alloc (.cells Tryz.zeroCells256 256)).heap.size=w.heap.size+1+1:=by simp
  rw [e8] at e9;rw [hW3];exact e9
 have hown3:=Ybe hown hB3 (fun g hg=>(hown.lt g hg).2)
 obtain ⟨W4,xc,hcp,c2,ck,cz,cb⟩:=Yxz hown3 hl (w.heap.size+1+1) g2 3
 have HW4:Hid (W4.heap[w.heap.size]? = some (.cells #[.int .u32 a,.int .u32 b] 168 (0,0))∧W4.heap[w.heap.size+1]? = some (.cells (Yci [] [] 0).toArray 256 (0,0))∧W4.heap[w.heap.size+1+1]? = some (.cells (Yad (Yfj ps)).toArray 300 (0,0))∧W4.heap.size=w.heap.size+3∧Below w.heap.size w W4):=
  ⟨(ck _ (by omega)).trans g0,(ck _ (by omega)).trans g1,c2,by rw [cz,hz3],hB3.trans (cb.mono (by omega))⟩
 clear hown hown3 g0 g1 g2 c2 ck cz cb hB3 hz3 hl hsz
 go_enter func165,ntmps165
 subst hW3
 go_wp2_with fail
 obtain ⟨W5,hW5⟩:∃ W5,W5=W4.alloc (.cells Tryz.zeroCells256 256):=⟨_,rfl⟩
 obtain ⟨i0,i1,i2,i3,i4⟩:=HW4.out
 have HI:Hid (Pk w W5 a b ps 0):=by
  have hb5:Below W4.heap.size W4 W5:=by rw [hW5];exact (Below.refl _ W4).alloc (Nat.le_refl _) _
  refine ⟨(hb5.block _ (by omega)).trans i0,(hb5.block _ (by omega)).trans i1,(hb5.block _ (by omega)).trans i2,?_,by rw [hW5];simp;omega,i4.trans (hb5.mono i4.size)⟩;rw [hW5,←i3];show _=some (Obj.cells (Yci [] [] 0).toArray _ (0,0));rw [←Yno];exact heap_alloc_new W4 _
 rw [i3,←hW5]
 clear i0 i1 i2 i3 i4 HW4 hW5 hcp
 go_loopw [14] (fun i wr=>∃ k:Nat,k≤2∧i=.int .i64 k∧Pk w wr a b ps k) (fun i _=>2 - (intOf i).toNat)
 case atStart=>exact ⟨0,by omega,rfl,HI.out⟩
 case round=>
  obtain ⟨k,hk,rfl,hrel⟩:=hrel;have HR:=Yh hrel;clear hrel HI;obtain ⟨wa,rfl⟩:∃ wa,wa=wr:=⟨_,rfl⟩;by_cases hlt:k<2
  ·have hk01:k=0∨k=1:=by omega
   have HSL2:=HSL.out k;have HLT:=Yh hlt;have HNX:Hid (∀ W,Pk w W a b ps k→∀ W',W'=W.setCells (w.heap.size+3) (k*64) (Yam a b (Ybb ps k))→Pk w W' a b ps (k+1)):=fun W hW W' hW'=>by
    subst hW';have h0:=HSL.out 0;have h1:=HSL.out 1;refine ⟨(Ygj _ _ _ _ _ (by omega)).trans hW.g0,(Ygj _ _ _ _ _ (by omega)).trans hW.g1,(Ygj _ _ _ _ _ (by omega)).trans hW.g2,?_,by rw [Ynq];exact hW.size,hW.below.trans (Yi1 _ _ _ _ (by omega))⟩;rw [Yhx _ _ _ _ _ _ hW.g3];congr 2;rcases hk01 with rfl | rfl
    ·have:=Ylj [] (List.replicate 64 (Value.int .u8 0)) (List.replicate 64 (Value.int .u8 0)) (Yam a b (Ybb ps 0)) (by simp [h0.1])
     simp only [Yf4,Yci,List.nil_append,List.length_nil,Nat.zero_mul] at this ⊢;rw [this]
    ·have:=Ylj (Yam a b (Ybb ps 0)) (List.replicate 64 (Value.int .u8 0)) [] (Yam a b (Ybb ps 1)) (by simp [h1.1])
     simp only [Yf4,Yci,List.append_nil,h0.1,Nat.one_mul] at this ⊢;rw [this]
   have HS3:Hid (∀ W,Pk w W a b ps k→W.there (w.heap.size+3) (k*64) 64):=fun W hW=>Yiq hW.g3 _ _ (by
    have h0:=(HSL.out 0).1;have h1:=(HSL.out 1).1;rw [List.size_toArray];rcases hk01 with rfl | rfl
    ·simp [Yf4,Yci]
    ·simp [Yf4,Yci,h0])
   rcases hk01 with rfl | rfl
   ·rw [show ((0:Nat):Int)=0 from rfl]
    go_wp2;go_loopw [8,24] (fun u i wr=>∃ j:Nat,j≤2∧i=.int .i64 j∧wr.ownsRow (w.heap.size+4) 5 1 u (22*j) (Ydz ps 0 j)∧Pk w wr a b ps 0) (fun _ i _=>2 - (intOf i).toNat)
    case atStart=>exact ⟨0,by omega,rfl,World.ownsRow_nil _ _ _ _,HR.out⟩
    case round=>
     obtain ⟨j,hj,rfl,hrow,hpk⟩:=hrel;have HPK:=Yh hpk;have HROW:=Yh hrow;by_cases hlt2:j<2
     ·have hlt':(j:Int)<2:=by omega
      obtain ⟨z0,z1⟩:=hpk.slot0 j hlt2;have hf:=HFT.out (2*0+j);have HBA:Hid (∀ o,Below (w.heap.size+4) wr (wr.alloc o)):=fun o=>(Below.refl _ _).alloc hpk.size _
      have HTX:Hid (Ydz ps 0 (j+1)=Ydz ps 0 j ++ Ya1 (Ybo ps (2*0+j)).1 8 ++ Ya1 (Ybo ps (2*0+j)).2 12):=rfl;generalize Ybo ps (2*0+j)=sl at z0 z1 hf HTX;obtain ⟨sk,sv⟩:=sl;simp only at z0 z1 hf HTX;have tk1:True:=trivial;have hsz0:=hpk.size;clear hrow hpk;go_wp2_with (first
       | (have _t:=tk1;go_at_call 211;go_must (
        clear tk1;refine (Yik (w.heap.size+4) _ (22*j) (Ydz ps 0 j) sk 8 _ (HROW.out.alloc _) (by simp;omega) (by omega) hf.1 (by omega)).mono ?_;rintro e wb ⟨vb,rfl,hrb,hgb⟩;have HBB:Hid (Below (w.heap.size+4) wr wb):=(HBA.out _).trans (hgb.below (HROW.out.alloc _) (Nat.le_refl _) (by simp;omega));have hq0:wb.heap[wr.heap.size]? = some (.cells #[.string sk,.string sv] 43 (0,0)):=(hgb.block (by simp) (fun e=>by have:=HROW.out.lt _ e;omega)).trans (heap_alloc_new wr _);have y1:=Yaa (j:=1) hq0 rfl;have HRB:=Yh hrb;clear hrb hgb hq0))
       | (go_at_call 211;go_must (
        refine (Yik (w.heap.size+4) _ (22*j+(1+8)) (Ydz ps 0 j ++ Ya1 sk 8) sv 12 _ HRB.out (by have:=HBB.out.size;omega) (by omega) hf.2 (by omega)).mono ?_;rintro e wc ⟨vc,rfl,hrc,hgc⟩;have HBC:Hid (Below (w.heap.size+4) wr wc):=HBB.out.trans (hgc.below HRB.out (Nat.le_refl _) (by have:=HBB.out.size;omega));have HRC:=Yh hrc;clear hrc hgc)))
      refine ⟨⟨j+1,by omega,by simp,?_,HPK.out.next HBC.out⟩,by simp [intOf];omega⟩;rw [HTX.out,show 22*(j+1)=22*j+(1+8)+(1+12) by omega];exact HRC.out
     ·obtain rfl:j=2:=by omega
      rw [Yln] at hrow;obtain ⟨g7,cap7,cur7,rfl,hg7b,hg7h,hc7,hcur⟩:=Yhw hrow (by omega);have y0:=Yaa (j:=0) hpk.g0 rfl;have y1:=Yaa (j:=1) hpk.g0 rfl;have HST:Hid (∀ W,Pk w W a b ps 0→Sem.run prog (storeCells ⟨w.heap.size+3,0,none⟩ (Yam a b (Ybb ps 0))) W=.ok () (W.setCells (w.heap.size+3) (0*64) (Yam a b (Ybb ps 0)))):=fun W hW=>by
       have h9:=run_storeCells_cells (P:=prog) (w.heap.size+3) (0*64) (Yam a b (Ybb ps 0)) 0 W (fun j hj=>?_) (fun j hj=>Yah _ hW.g3) HSL2.2
       ·exact h9
       ·have hz:=(HSL.out 0).1
        rw [HSL2.1] at hj;have hpl:(Yf4 a b ps 0).toArray.size=128:=by rw [List.size_toArray];simp [Yf4,Yci]
        rw [Yaa hW.g3 (Array.getElem?_eq_getElem (by rw [hpl];omega))];rfl
      have hL44:(Ybb ps 0).length=22*2:=by rw [←Yln];exact HTL.out 0 2
      clear hrow hpk hg7b hc7;have HG7:=Yh hg7h;have HCU:=Yh hcur;have HH1:Hid (∀ u∈Ybb ps 0,u.oneCell'=true):=Yi3 ps 0;clear hg7h hcur;go_wp2_with (first
       | (go_at_call 167;go_must (
        refine (Ykz a b _ ha ha' hb hb' g7 (22*2) cap7 (Ybb ps 0) (Yaj HG7.out) hL44 (by omega) (fun j u hu=>Yaa HG7.out (HCU.out j u hu)) HH1.out).mono ?_;rintro r w8 ⟨S,rfl,HSS,HSLL,HS1',hb8⟩;have hpk8:Pk w w8 a b ps 0:=HPK.out.next (hb8.mono HPK.out.size);have hrun:=HST.out w8 hpk8;rw [←HSS.out] at hrun;have HP8:=Yh hpk8;have hSL:S.length=64:=HSLL.out;clear hb8 hpk8)))
      refine ⟨⟨0+1,by omega,by simp,HNX.out w8 HP8.out _ (by rw [HSS.out])⟩,by simp [intOf]⟩
   ·rw [show ((1:Nat):Int)=1 from rfl]
    go_wp2;go_loopw [8,24] (fun u i wr=>∃ j:Nat,j≤2∧i=.int .i64 j∧wr.ownsRow (w.heap.size+4) 5 1 u (22*j) (Ydz ps 1 j)∧Pk w wr a b ps 1) (fun _ i _=>2 - (intOf i).toNat)
    case atStart=>exact ⟨0,by omega,rfl,World.ownsRow_nil _ _ _ _,HR.out⟩
    case round=>
     obtain ⟨j,hj,rfl,hrow,hpk⟩:=hrel;have HPK:=Yh hpk;have HROW:=Yh hrow;by_cases hlt2:j<2
     ·have hlt':(j:Int)<2:=by omega
      obtain ⟨z0,z1⟩:=hpk.slot1 j hlt2;have hf:=HFT.out (2*1+j);have HBA:Hid (∀ o,Below (w.heap.size+4) wr (wr.alloc o)):=fun o=>(Below.refl _ _).alloc hpk.size _
      have HTX:Hid (Ydz ps 1 (j+1)=Ydz ps 1 j ++ Ya1 (Ybo ps (2*1+j)).1 8 ++ Ya1 (Ybo ps (2*1+j)).2 12):=rfl;generalize Ybo ps (2*1+j)=sl at z0 z1 hf HTX;obtain ⟨sk,sv⟩:=sl;simp only at z0 z1 hf HTX;have tk1:True:=trivial;have hsz0:=hpk.size;clear hrow hpk;go_wp2_with (first
       | (have _t:=tk1;go_at_call 211;go_must (
        clear tk1;refine (Yik (w.heap.size+4) _ (22*j) (Ydz ps 1 j) sk 8 _ (HROW.out.alloc _) (by simp;omega) (by omega) hf.1 (by omega)).mono ?_;rintro e wb ⟨vb,rfl,hrb,hgb⟩;have HBB:Hid (Below (w.heap.size+4) wr wb):=(HBA.out _).trans (hgb.below (HROW.out.alloc _) (Nat.le_refl _) (by simp;omega));have hq0:wb.heap[wr.heap.size]? = some (.cells #[.string sk,.string sv] 43 (0,0)):=(hgb.block (by simp) (fun e=>by have:=HROW.out.lt _ e;omega)).trans (heap_alloc_new wr _);have y1:=Yaa (j:=1) hq0 rfl;have HRB:=Yh hrb;clear hrb hgb hq0))
       | (go_at_call 211;go_must (
        refine (Yik (w.heap.size+4) _ (22*j+(1+8)) (Ydz ps 1 j ++ Ya1 sk 8) sv 12 _ HRB.out (by have:=HBB.out.size;omega) (by omega) hf.2 (by omega)).mono ?_;rintro e wc ⟨vc,rfl,hrc,hgc⟩;have HBC:Hid (Below (w.heap.size+4) wr wc):=HBB.out.trans (hgc.below HRB.out (Nat.le_refl _) (by have:=HBB.out.size;omega));have HRC:=Yh hrc;clear hrc hgc)))
      refine ⟨⟨j+1,by omega,by simp,?_,HPK.out.next HBC.out⟩,by simp [intOf];omega⟩;rw [HTX.out,show 22*(j+1)=22*j+(1+8)+(1+12) by omega];exact HRC.out
     ·obtain rfl:j=2:=by omega
      rw [Yln] at hrow;obtain ⟨g7,cap7,cur7,rfl,hg7b,hg7h,hc7,hcur⟩:=Yhw hrow (by omega);have y0:=Yaa (j:=0) hpk.g0 rfl;have y1:=Yaa (j:=1) hpk.g0 rfl;have HST:Hid (∀ W,Pk w W a b ps 1→Sem.run prog (storeCells ⟨w.heap.size+3,64,none⟩ (Yam a b (Ybb ps 1))) W=.ok () (W.setCells (w.heap.size+3) (1*64) (Yam a b (Ybb ps 1)))):=fun W hW=>by
       have h9:=run_storeCells_cells (P:=prog) (w.heap.size+3) (1*64) (Yam a b (Ybb ps 1)) 0 W (fun j hj=>?_) (fun j hj=>Yah _ hW.g3) HSL2.2
       ·exact h9
       ·have hz:=(HSL.out 0).1
        rw [HSL2.1] at hj;have hpl:(Yf4 a b ps 1).toArray.size=128:=by rw [List.size_toArray];simp [Yf4,Yci,hz]
        rw [Yaa hW.g3 (Array.getElem?_eq_getElem (by rw [hpl];omega))];rfl
      have hL44:(Ybb ps 1).length=22*2:=by rw [←Yln];exact HTL.out 1 2
      clear hrow hpk hg7b hc7;have HG7:=Yh hg7h;have HCU:=Yh hcur;have HH1:Hid (∀ u∈Ybb ps 1,u.oneCell'=true):=Yi3 ps 1;clear hg7h hcur;go_wp2_with (first
       | (go_at_call 167;go_must (
        refine (Ykz a b _ ha ha' hb hb' g7 (22*2) cap7 (Ybb ps 1) (Yaj HG7.out) hL44 (by omega) (fun j u hu=>Yaa HG7.out (HCU.out j u hu)) HH1.out).mono ?_;rintro r w8 ⟨S,rfl,HSS,HSLL,HS1',hb8⟩;have hpk8:Pk w w8 a b ps 1:=HPK.out.next (hb8.mono HPK.out.size);have hrun:=HST.out w8 hpk8;rw [←HSS.out] at hrun;have HP8:=Yh hpk8;have hSL:S.length=64:=HSLL.out;clear hb8 hpk8)))
      refine ⟨⟨1+1,by omega,by simp,HNX.out w8 HP8.out _ (by rw [HSS.out])⟩,by simp [intOf]⟩
  ·obtain rfl:k=2:=by omega
   obtain ⟨R,hR⟩:∃ R,Yam a b (Ybb ps 0) ++ Yam a b (Ybb ps 1)=R:=⟨_,rfl⟩;have hR2:Yf4 a b ps 2=R:=hR;have hRl:R.length=128:=by rw [←hR,List.length_append,(HSL.out 0).1,(HSL.out 1).1]
   have hR1:∀ u∈R,u.oneCell'=true:=by
    rw [←hR];exact fun u hu=>(List.mem_append.1 hu).elim (fun h=>(HSL.out 0).2 u h) (fun h=>(HSL.out 1).2 u h)
   have hg3:=HR.out.g3;rw [hR2] at hg3;have HRR:=Yh hR;have hrg:wa.rangeAt (w.heap.size+3) 0 R:=fun j u hu=>by rw [Nat.zero_add];exact Yaa hg3 (by simpa using hu)
   have hi:(prog.info? 256).map (·.size)=some R.length:=by rw [hRl];kernel_rfl
   have HC0:Hid (wa.heap[w.heap.size+1]? = some (.cells (Yci [] [] 0).toArray 256 (0,0))):=HR.out.g1;have HFIN:Hid ((wa.setRow (w.heap.size+1) R.toArray).heap[w.heap.size+1]? = some (.cells R.toArray 256 (0,0))):=setRow_heap wa (w.heap.size+1) _ R.toArray _ (0,0) HR.out.g1;have HBF:Hid (Below w.heap.size w (wa.setRow (w.heap.size+1) R.toArray)):=HR.out.below.trans ((Ylk wa _ _).mono (by omega));clear hg3 hR hR2;go_wp2_with (first
    | (refine wpList_load_mid rfl 256 (.tmp 6) rfl (w.heap.size+3) 0 (by rfl) R _ hrg underlying256 rfl hi ?_)
    | (
     refine wpList_store_row rfl 256 (.tmp 4) (.tmp 43) rfl (w.heap.size+1) R.toArray (by rfl) (by rfl) 256 _ HC0.out (by simpa using hi) ?ho (all_oneCell_toArray hR1) ?_
     case ho=>simp [Yci,hRl]))
   exact bodyPost_ret (results_cell_row Tryz.results165 _ _ (w.heap.size+1) 256 R.toArray (0,0) _ rfl HFIN.out underlying256 rfl (by simpa using hi)) rfl ⟨by rw [HRR.out],HBF.out⟩
def Yb0 (v:Value):Option (DataW Value×List MemPlace):=some (.held v,[])
def Yap (w:World) (k:TypeId) (b n:Nat) (D:DataW Value):Prop:=w.ownsMap prog k Yb0 b n D
theorem Yap.look {k t e:TypeId} (h:Yap w k b n D) (K:Maps.Keyed prog k) (ht:prog.underlying t=some (.map k e)) {z:Value} (hz:(zeroValue e).run prog w=.ok z w) {key:Value} {kl:Lit} (hkey:keyOf prog k key=some kl):
 ∃ v,(Instr.lookup t (.map (some b)) key false).run prog w=.ok v w∧D.atKey kl (.held z)=.held v:=by
 obtain ⟨v,ps,hr,hv⟩:=World.ownsMap.lookup h K ht hz (zd:=.held z) (zp:=[]) rfl hkey
 refine ⟨v,hr,?_⟩
 simp only [Yb0,Option.some.injEq,Prod.mk.injEq] at hv
 exact hv.1.symm
theorem Yap.kept {k:TypeId} (h:Yap w k b n D) (hk:w'.heap[b]? = w.heap[b]?):Yap w' k b n D:=by
 obtain ⟨es,clock,hb,r⟩:=h;exact ⟨es,clock,hk.trans hb,r⟩
theorem Yap.lt {k:TypeId} (h:Yap w k b n D):b<w.heap.size:=World.ownsMap.lt h
theorem Yap.below {k:TypeId} (h:Yap w k b n D) (hb:Below w.heap.size w w'):Yap w' k b n D:=h.kept (hb.block b h.lt)
theorem Yf5 (x:Int) (h:-9223372036854775808≤x∧x<9223372036854775808):keyOf prog 3 (.int .i64 x)=some (.int .i64 x):=Maps.keyOf_int_mk underlying3 (by
 have e:wrap64 x=x:=by simp only [wrap64];omega
 rw [←e];exact wrap64_wf _)
theorem ofInt (n:Nat) (h:n<1000000):keyOf prog 3 (.int .i64 (n:Int))=some (.int .i64 (n:Int)):=Yf5 n (by omega)
theorem Yrh (pb o mb k n g:Nat) (M:DataW Value) (w:World) (hn:n<8) (hp:w.cell? ⟨pb,o+1,none⟩=some (.map (some mb))) (hM:Yap w 3 mb k M) (hat:M.atKey (.int .i64 (n:Int)) (.held (.pointer none))=.held (.pointer (some ⟨g,0,none⟩))):
 Calls prog 111 #[.pointer (some ⟨pb,o,none⟩),.int .i64 (n:Int)] w fun e w'=>e=.returned (.pointer (some ⟨g,0,none⟩))∧w=w':=by
 obtain ⟨v,hr,hv⟩:=hM.look (Maps.int_keyed underlying3) underlying127 (z:=.pointer none) (Tryz.zeroValue181 _) (ofInt n (by omega))
 rw [hat] at hv
 simp only [DataW.held.injEq] at hv
 subst hv
 clear hM hat
 go_enter func111,ntmps111
 go_wp2
 go_ret
 exact ⟨rfl,rfl⟩
def Yri (w w':World) (mb k n:Nat) (M:DataW Value) (g:Nat) (turn:Nat) (ps:Yaf):Prop:=
 ∃ x,w.heap.size≤g∧w'.heap[g]? = some (.cells #[.int .i64 (turn:Int),x] 180 (0,0))∧w'.ownsRow w.heap.size 43 2 x ps.length (Yad ps)∧x.ownBlock≠some g ∧
  Yap w' 3 mb (k+1) (M.put (.int .i64 (n:Int)) (.held (.pointer (some ⟨g,0,none⟩))))∧(∀ q,q<w.heap.size→q≠mb→w'.heap[q]? = w.heap[q]?)∧Below 0 w w'
theorem Yx1 (pb o vb db mb k n:Nat) (D:Array Value) (ws:List (Nat×List Value)) (v:Value) (c0 c1:Ybq) (M:DataW Value) (w:World) (hn:n<8) (hk:k≤1000)
 (hp0:w.cell? ⟨pb,o,none⟩=some (.pointer (some ⟨vb,0,none⟩))) (hp:w.cell? ⟨pb,o+1,none⟩=some (.map (some mb))) (hv:w.cell? ⟨vb,0,none⟩=some (.pointer (some ⟨db,0,none⟩))) (hpw:pb<w.heap.size) (hvw:vb<w.heap.size) (hne:pb≠mb)
 (hd:Yen w db D ws v) (hc:Ykc D ws n c0 c1) (hM:Yap w 3 mb k M) (hat:M.atKey (.int .i64 (n:Int)) (.held (.pointer none))=.held (.pointer none)):
 Calls prog 111 #[.pointer (some ⟨pb,o,none⟩),.int .i64 (n:Int)] w fun e w'=>∃ g,e=.returned (.pointer (some ⟨g,0,none⟩))∧Yri w w' mb k n M g (Ya3.of c0 c1 2).at' (Ya3.of c0 c1 2).rec':=by
 have hK:=Maps.int_keyed (P:=prog) underlying3
 have hkey:=ofInt n (by omega)
 obtain ⟨u,hr,hu⟩:=hM.look hK underlying127 (z:=.pointer none) (Tryz.zeroValue181 _) hkey
 rw [hat] at hu
 simp only [DataW.held.injEq] at hu
 subst hu
 have KL:=Yxw pb o vb db n D ws v c0 c1 w.drew hn hp0 hv hpw hvw (hd.below ((Below.refl _ w).drew)) hc
 have HKL:=Yh KL
 generalize (Ya3.of c0 c1 2).at'=turn at HKL ⊢
 generalize (Ya3.of c0 c1 2).rec'=ps at HKL ⊢
 have HM:=Yh hM
 have HUP:Hid (∀ w1 g,Yap w1 3 mb k M→∃ w2,(Instr.mapUpdate 127 (.map (some mb)) (.int .i64 (n:Int)) (.pointer (some ⟨g,0,none⟩))).run prog w1=.ok () w2∧Yap w2 3 mb (k+1) (M.put (.int .i64 (n:Int)) (.held (.pointer (some ⟨g,0,none⟩))))∧w1.grownBy w2 (some mb)):=fun w1 g h1=>
  World.ownsMap.update h1 hK underlying127 (by unfold maxLen;omega) hkey rfl
 have HLK:Hid (∀ w2 g,Yap w2 3 mb (k+1) (M.put (.int .i64 (n:Int)) (.held (.pointer (some ⟨g,0,none⟩))))→(Instr.lookup 127 (.map (some mb)) (.int .i64 (n:Int)) false).run prog w2=.ok (.pointer (some ⟨g,0,none⟩)) w2):=fun w2 g h2=>by
  obtain ⟨u,hr,hu⟩:=h2.look hK underlying127 (z:=.pointer none) (Tryz.zeroValue181 _) hkey;have e:(M.put (.int .i64 (n:Int)) (.held (.pointer (some ⟨g,0,none⟩)))).atKey (.int .i64 (n:Int)) (.held (.pointer none))=.held (.pointer (some ⟨g,0,none⟩)):=Maps.atKey_put_same (World.ownsMap.isMap hM) (by simp [WideAt.IsKeyLit]) _ _;rw [e] at hu;simp only [DataW.held.injEq] at hu;subst hu;exact hr
 have hmw:mb<w.heap.size:=hM.lt
 clear hM hat hkey KL hd hc hp0 hv
 go_enter func111,ntmps111
 go_wp2
 go_region_held3 (fun w'=>w'.cell? ⟨pb,o+1,none⟩=some (.map (some mb)))
  (go_keep)
  (first
   | (go_at_call 143;go_must (
    refine HKL.out.mono ?_;rintro e w1 ⟨g,x,rfl,hg1,hg2,hx,hxg,hb1⟩;have hb1':Below w.heap.size w w1:=(Below.refl _ w).drew.trans hb1;have hm1:Yap w1 3 mb k M:=HM.out.below hb1';obtain ⟨w2,hrun,hm2,hgr⟩:=HUP.out w1 g hm1;have hlk:=HLK.out w2 g hm2;have hp1:=(hb1'.cell (p:=⟨pb,o+1,none⟩) hpw).trans hp;have hp2:w2.cell? ⟨pb,o+1,none⟩=some (.map (some mb)):=(World.cell?_of_block (hgr.block pb (by have:=hb1'.size;omega) (by simp [hne]))).trans hp1;have HFIN:Hid (Yri w w2 mb k n M g turn ps):=by
     have hz:=hb1'.size;have hgl:=Yaj hg2;refine ⟨x,hg1,(hgr.block g hgl (by simp;simp at hg1;omega)).trans hg2,Yda hx (fun q hq=>hgr.block q (hx.lt q hq).2 (by have:=(hx.lt q hq).1;simp at this ⊢;omega)),hxg,hm2,fun q h1 h2=>(hgr.block q (by omega) (by simp [h2])).trans (hb1'.block q h1),?_⟩;exact ⟨hgr.os.trans hb1'.os,hgr.tape.trans hb1'.tape,hgr.output.trans hb1'.output,by have:=hgr.size;omega,fun q hq=>by omega⟩
    clear hg1 hg2 hx hxg hb1 hb1' hm1 hm2 hgr)))
 all_goals
  go_wp2;go_ret;exact ⟨_,rfl,HFIN.out⟩
def Yrj (w:World) (hb nH:Nat) (H:DataW Value) (key:ByteArray) (x:Int):Prop:=
 Yap w 9 hb nH H∧H.atKey (.string key.data.toList) (.held (.int .i64 0))=.held (.int .i64 x)∧0≤x∧x≤2
def Yf6 (w:World) (tb:Nat) (last:Int) (hb:Nat):Prop:=w.heap[tb]? = some (.cells #[.int .i64 last,.map (some hb)] 359 (0,0))
def Yh9 (w:World) (M:DataW Value) (key:ByteArray) (f:Int→Int):Prop:=
 ∀ (x:Int) (v:Value),(∀ zd,M.atKey (.int .i64 x) zd=.held v)→∃ tb last hb nH H,v=.pointer (some ⟨tb,0,none⟩)∧Yf6 w tb last hb∧Yrj w hb nH H key (f x)
theorem Yh9.below {key:ByteArray} {f:Int→Int} (h:Yh9 w M key f) (hb:Below w.heap.size w w'):Yh9 w' M key f:=fun x v hx=>by
 obtain ⟨tb,last,hb',nH,H,h1,h2,h3,h4⟩:=h x v hx;exact ⟨tb,last,hb',nH,H,h1,(hb.block tb (Yaj h2)).trans h2,h3.below hb,h4⟩
def Yi4 (M:DataW Value) (f:Int→Int) (t:Int) (left:Lit→Bool) (m:Int):Prop:=
 0≤m∧m≤2∧(∀ x:Int,Maps.has M (.int .i64 x)=true→left (.int .i64 x)=false→x≠t→f x≤m)∧(m=0∨∃ x:Int,Maps.has M (.int .i64 x)=true∧x≠t∧f x=m)
theorem Yfk (s:ByteArray) (h:s.size≤1000):keyOf prog 9 (.string s)=some (.string s.data.toList):=WideMaps.keyOf_string_mk underlying9 (by unfold maxLen;omega)
theorem Yrk (cb mb k:Nat) (M:DataW Value) (t:Int) (key:ByteArray) (f:Int→Int) (w:World) (hks:key.size≤1000) (hc:w.cell? ⟨cb,5,none⟩=some (.map (some mb))) (hM:Yap w 3 mb k M) (hH:Yh9 w M key f):
 Calls prog 292 #[.pointer (some ⟨cb,0,none⟩),.int .i64 t,.string key] w fun e w'=>∃ m,e=.returned (.int .i64 m)∧Yi4 M f t (fun _=>false) m∧Below w.heap.size w w':=by
 have hK:=Maps.int_keyed (P:=prog) underlying3
 have HH:=Yh hH
 have HM:=Yh hM
 have hmw:mb<w.heap.size:=hM.lt
 clear hM hH
 go_enter func292,ntmps292
 go_wp2_with (first
  | (at_range;refine wpList_range_own _ rfl _ 227 rfl 3 356 hK underlying227 Yb0 mb k M rfl HM.out ?_;intro w0 hrg0 hg0 hs0))
 go_frame
 have hb0:Below w.heap.size w w0:=⟨hg0.os,hg0.tape,hg0.output,by omega,fun q hq=>hg0.block q hq (by simp)⟩
 go_loopw [7] (fun mv wr=>∃ m left cnt,mv=.int .i64 m∧wr.ranges prog 3 Yb0 mb w.heap.size k M left cnt∧Yi4 M f t left m∧Below w.heap.size w wr) (fun _ wr=>wr.rangeLeft mb w.heap.size)
 case atStart=>
  refine ⟨0,_,_,rfl,hrg0,⟨by omega,by omega,fun x h1 h2=>?_,.inl rfl⟩,hb0⟩;rw [h1] at h2;cases h2
 case round=>
  obtain ⟨m,left,cnt,rfl,hrg,hmost,hbw⟩:=hrel;have HMO:=Yh hmost;have HBW:=Yh hbw;have HRG:=Yh hrg;clear hrg0 hg0 hs0 hb0 hmost hbw;go_wp2_with (first
   | (at_next;refine wpList_next_ranges _ rfl _ rfl 3 hK Yb0 (Value.int .i64) (fun v:Value=>v) (fun key kl hkey=>by obtain ⟨x,rfl,_⟩:=Maps.keyOf_int_inv underlying3 hkey;exact ⟨x,rfl⟩) (fun v y hv=>⟨v,rfl⟩) mb w.heap.size k M left cnt rfl HRG.out ?_ ?_))
  ·intro _ hl0
   go_wp2;go_ret;obtain ⟨h1,h2,h3,h4⟩:=HMO.out;exact ⟨m,rfl,⟨h1,h2,fun x hx _ hne=>h3 x hx (hl0 _) hne,h4⟩,HBW.out⟩
  ·intro x c kl yd yp w1 cnt1 hkey hlx hv hat hrg1 hlt hg1 hs1 hen
   obtain ⟨x',hx',rfl,hwf⟩:=Maps.keyOf_int_inv underlying3 hkey;simp only [Value.int.injEq,true_and] at hx';subst hx';simp only [Yb0,Option.some.injEq,Prod.mk.injEq] at hv;obtain ⟨rfl,rfl⟩:=hv;obtain ⟨tb,last,hb,nH,H,rfl,htx,hmh,hhd,hf0,hf2⟩:=HH.out x c hat;have hb1:Below w.heap.size w w1:=HBW.out.trans ⟨hg1.os,hg1.tape,hg1.output,hg1.size,fun q hq=>hg1.block q (by have:=HBW.out.size;omega) (by simp;omega)⟩;have htx1:w1.heap[tb]? = some (.cells #[.int .i64 last,.map (some hb)] 359 (0,0)):=(hb1.block tb (Yaj htx)).trans htx;have ct:w1.cell? ⟨tb,1,none⟩=some (.map (some hb)):=Yaa (j:=1) htx1 rfl;obtain ⟨u,hlk,hu⟩:=(hmh.below hb1).look (Maps.string_keyed underlying9) underlying357 (z:=.int .i64 0) (Tryz.zeroValue363 _) (Yfk key hks);rw [hhd] at hu;simp only [DataW.held.injEq] at hu;subst hu;have hhas:Maps.has M (.int .i64 x)=true:=Maps.has_true_of_atKey hat;have HME:Hid (w1.rangeLeft mb w.heap.size<wr.rangeLeft mb w.heap.size):=by show _<_;rw [hrg1.left_eq,HRG.out.left_eq];exact hlt
   have HR1:=Yh hrg1;have HB1:=Yh hb1;have HLE:Hid (∀ z:Int,(left (.int .i64 z) && !(Lit.int .i64 z).sameKey (.int .i64 x))=false→left (.int .i64 z)=false∨z=x):=fun z hz=>by
    by_cases h:z=x
    ·exact .inr h
    ·rw [Maps.sameKey_ne (by simpa using h)] at hz
     simp at hz;exact .inl hz
   clear hat hrg1 hlt hg1 hs1 htx htx1 hmh hhd hb1 hrg hkey;by_cases hxt:x=t
   ·subst hxt
    go_wp2;refine ⟨⟨m,_,_,rfl,HR1.out,?_,HB1.out⟩,HME.out⟩;obtain ⟨h1,h2,h3,h4⟩:=HMO.out;exact ⟨h1,h2,fun z hz hl hne=>h3 z hz ((HLE.out z hl).resolve_right hne) hne,h4⟩
   ·have hxt':(x == t)=false:=by simpa using hxt
    go_wp2;refine ⟨⟨_,_,_,rfl,HR1.out,?_,HB1.out⟩,HME.out⟩;obtain ⟨h1,h2,h3,h4⟩:=HMO.out;refine ⟨by omega,by omega,fun z hz hl hne=>?_,?_⟩
    ·rcases HLE.out z hl with h | h
     ·have:=h3 z hz h hne;omega
     ·subst h;omega
    ·by_cases hm:m≤f x
     ·exact .inr ⟨x,hhas,hxt,by omega⟩
     ·have e:max m (f x)=m:=by omega
      rw [e];exact h4
def Yf7 (M:DataW Value) (t:Int) (tb:Nat):Prop:=∀ zd,M.atKey (.int .i64 t) zd=.held (.pointer (some ⟨tb,0,none⟩))
def Yhf (M:DataW Value) (t:Int):Prop:=∀ zd,M.atKey (.int .i64 t) zd=zd
def Yax (t:Int):Prop:=-9223372036854775808≤t∧t<9223372036854775808
theorem Ykd {tb:Nat} (ht:Yax t) (hM:Yap w 3 mb k M) (ho:Yf7 M t tb):
 (Instr.lookup 227 (.map (some mb)) (.int .i64 t) false).run prog w=.ok (.pointer (some ⟨tb,0,none⟩)) w:=by
 obtain ⟨v,hr,hv⟩:=hM.look (Maps.int_keyed underlying3) underlying227 (z:=.pointer none) (Tryz.zeroValue356 _) (Yf5 t ht)
 rw [ho] at hv
 simp only [DataW.held.injEq] at hv
 subst hv
 exact hr
theorem Yx2 (ht:Yax t) (hM:Yap w 3 mb k M) (ho:Yhf M t):
 (Instr.lookup 227 (.map (some mb)) (.int .i64 t) false).run prog w=.ok (.pointer none) w:=by
 obtain ⟨v,hr,hv⟩:=hM.look (Maps.int_keyed underlying3) underlying227 (z:=.pointer none) (Tryz.zeroValue356 _) (Yf5 t ht)
 rw [ho] at hv
 simp only [DataW.held.injEq] at hv
 subst hv
 exact hr
theorem Yrl (cb mb k tb:Nat) (M:DataW Value) (t:Int) (w:World) (ht:Yax t) (hc:w.cell? ⟨cb,5,none⟩=some (.map (some mb))) (hM:Yap w 3 mb k M) (ho:Yf7 M t tb):
 Calls prog 278 #[.pointer (some ⟨cb,0,none⟩),.int .i64 t] w fun e w'=>e=.returned (.int .i64 0)∧w=w':=by
 have hl:=Ykd ht hM ho
 clear hM ho
 go_enter func278,ntmps278
 go_wp2
 go_ret
 exact ⟨rfl,rfl⟩
theorem Yrm (cb mb k:Nat) (M:DataW Value) (t:Int) (w:World) (ht:Yax t) (hc:w.cell? ⟨cb,5,none⟩=some (.map (some mb))) (hM:Yap w 3 mb k M) (ho:Yhf M t):
 Calls prog 278 #[.pointer (some ⟨cb,0,none⟩),.int .i64 t] w fun e w'=>e=.returned (.int .i64 5)∧w=w':=by
 have hl:=Yx2 ht hM ho
 clear hM ho
 go_enter func278,ntmps278
 go_wp2
 go_ret
 exact ⟨rfl,rfl⟩
def Ya8 (isOpen:Bool) (key:ByteArray):Int:=if isOpen=false then 5 else if key.size<1∨8<key.size then 6 else 0
theorem Yrn (cb mb k:Nat) (M:DataW Value) (t:Int) (key:ByteArray) (b:Bool) (w:World) (ht:Yax t) (hks:key.size≤140737488355328) (hc:w.cell? ⟨cb,5,none⟩=some (.map (some mb))) (hM:Yap w 3 mb k M) (ho:(b=true∧∃ tb,Yf7 M t tb)∨(b=false∧Yhf M t)):
 Calls prog 291 #[.pointer (some ⟨cb,0,none⟩),.int .i64 t,.string key] w fun e w'=>e=.returned (.int .i64 (Ya8 b key))∧w=w':=by
 rcases ho with ⟨rfl,tb,ho⟩ | ⟨rfl,ho⟩
 ·have KM:=Yrl cb mb k tb M t w ht hc hM ho
  clear hM ho;by_cases h1:key.size<1
  ·have e1:Ya8 true key=6:=by simp [Ya8,h1]
   have h1':(key.size:Int)<1:=by omega
   go_enter func291,ntmps291;go_wp2_with (first | (go_at_call 278;refine KM.mono ?_;rintro e w' ⟨rfl,rfl⟩))
   go_ret;exact ⟨by rw [e1];rfl,rfl⟩
  ·by_cases h2:8<key.size
   ·have e1:Ya8 true key=6:=by simp [Ya8,h2]
    have h1':¬(key.size:Int)<1:=by omega
    have h2':(8:Int)<(key.size:Int):=by omega
    go_enter func291,ntmps291;go_wp2_with (first | (go_at_call 278;refine KM.mono ?_;rintro e w' ⟨rfl,rfl⟩))
    go_ret;exact ⟨by rw [e1];rfl,rfl⟩
   ·have e1:Ya8 true key=0:=by simp [Ya8,h1,h2]
    have h1':¬(key.size:Int)<1:=by omega
    have h2':¬(8:Int)<(key.size:Int):=by omega
    go_enter func291,ntmps291;go_wp2_with (first | (go_at_call 278;refine KM.mono ?_;rintro e w' ⟨rfl,rfl⟩))
    go_ret;exact ⟨by rw [e1];rfl,rfl⟩
 ·have KM:=Yrm cb mb k M t w ht hc hM ho
  have e1:Ya8 false key=5:=by simp [Ya8]
  clear hM ho;go_enter func291,ntmps291;go_wp2_with (first | (go_at_call 278;refine KM.mono ?_;rintro e w' ⟨rfl,rfl⟩))
  go_ret;exact ⟨by rw [e1];rfl,rfl⟩
theorem Ynr (cb:Nat) (n:Int) (w:World) (hc:w.cell? ⟨cb,7,none⟩=some (.int .i64 n)):
 Calls prog 285 #[.pointer (some ⟨cb,0,none⟩)] w fun e w'=>e=.returned (.bool (decide (120≤n)))∧w=w':=by
 go_enter func285,ntmps285
 go_wp2
 go_ret
 exact ⟨by simp,rfl⟩
theorem Yro (n:Nat) (w:World) (h1:1≤n) (h2:n≤100000):
 Calls prog 149 #[.int .i64 (n:Int)] w fun e w'=>e=.returned (.int .i64 ((33+n:Nat):Int))∧w=w':=by
 have e1:wrap64 (34+(n:Int))=34+(n:Int):=by simp only [wrap64];omega
 have e2:wrap64 (34+(n:Int) - 1)=34+(n:Int) - 1:=by simp only [wrap64];omega
 have KP:=Ynn 8 0 w (by omega) (by omega)
 go_enter func149,ntmps149
 go_wp2_with (first | (go_at_call 164;refine KP.mono ?_;rintro e w' ⟨rfl,rfl⟩))
 go_ret
 exact ⟨by simp;omega,rfl⟩
theorem Yx3 (cb mb k tb hb nH:Nat) (M H:DataW Value) (t:Int) (key:ByteArray) (last h x:Int) (w:World) (ht:Yax t) (hks:key.size≤1000) (hnH:nH≤2000000000000) (hc:w.cell? ⟨cb,5,none⟩=some (.map (some mb))) (hM:Yap w 3 mb k M) (ho:Yf7 M t tb) (htx:Yf6 w tb last hb) (hh:Yrj w hb nH H key x):
 Calls prog 294 #[.pointer (some ⟨cb,0,none⟩),.int .i64 t,.string key,.int .i64 h] w fun e w'=>e=.returned (.tuple #[])∧Yap w' 9 hb (nH+1) (H.put (.string key.data.toList) (.held (.int .i64 (max x h))))∧(∀ q,q≠hb→w'.heap[q]? = w.heap[q]?)∧w'.heap.size=w.heap.size∧Below 0 w w':=by
 have hl:=Ykd ht hM ho
 have ct:w.cell? ⟨tb,1,none⟩=some (.map (some hb)):=Yaa (j:=1) htx rfl
 obtain ⟨hmh,hat,_,_⟩:=hh
 obtain ⟨u,hlk,hu⟩:=hmh.look (Maps.string_keyed underlying9) underlying357 (z:=.int .i64 0) (Tryz.zeroValue363 _) (Yfk key hks)
 rw [hat] at hu
 simp only [DataW.held.injEq] at hu
 subst hu
 obtain ⟨w2,hup,hm2,htu⟩:=World.ownsMap.store (val:=.int .i64 (max x h)) hmh (Maps.string_keyed underlying9) underlying357 (by unfold maxLen;omega) (Yfk key hks) rfl
 have hgr:=htu.grown
 have HM2:=Yh hm2
 have HTU:=Yh htu
 clear hM ho htx hmh hat hm2 hgr htu
 go_enter func294,ntmps294
 go_wp2
 go_end0
 obtain ⟨es,cl,es',cl',h1,h2⟩:=HTU.out
 have hz:w2.heap.size=w.heap.size:=by rw [h2];simp [ChangeMaps.setBlock]
 have ho:∀ q,q≠hb→w2.heap[q]? = w.heap[q]?:=fun q hq=>by rw [h2];exact ChangeMaps.heap_setBlock_other h1 _ hq
 exact ⟨rfl,HM2.out,ho,hz,by rw [h2];rfl,by rw [h2];rfl,by rw [h2];rfl,by omega,fun q hq=>by omega⟩
end Go.Proofs.YtihbngfbcnojcaaGreat
