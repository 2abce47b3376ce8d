import Derived.Test.YtihbngfbcnojcaaGreatActC06
import Derived.Deep.CutRange
import Derived.Deep.MidRow
set_option maxRecDepth 100000
set_option maxHeartbeats 8000000
namespace Go.Proofs.YtihbngfbcnojcaaGreat
open Go.RowKit Go.Shelf Tryz
attribute [local go_sem] Oper.semAt_some
def Yay (D:Array Value) (ws:List (Nat×List Value)) (a:Nat):List Value:=
 match ws.reverse.find? (fun p=>p.1 == a) with
 | some p=>p.2
 | none=>(D.extract (a*64) (a*64+64)).toList
def Yhe (w:World) (v:Value) (ws:List (Nat×List Value)):Prop:=
 (v=.slice none 0 0∧ws=[])∨∃ g cap cur,v=.slice (some ⟨g,0,none⟩) ws.length cap∧w.heap[g]? = some (.cells cur 143 (0,0))∧∀ (j:Nat) u,(Ycs ws)[j]? = some u→cur[j]? = some u
theorem Yhe.below {w w':World} {v:Value} {ws:List (Nat×List Value)} (h:Yhe w v ws) (hb:Below w.heap.size w w'):Yhe w' v ws:=by
 rcases h with h | ⟨g,cap,cur,h1,h2,h3⟩
 ·exact .inl h
 ·exact .inr ⟨g,cap,cur,h1,(hb.block g (Yaj h2)).trans h2,h3⟩
theorem Yw8 {ws:List (Nat×List Value)} (hok:Ydn ws):∀ p∈ws.zipIdx.reverse,p.1.2.length=64∧∀ u∈p.1.2,u.oneCell'=true:=by
 intro p hp;have:p.1∈ws:=(List.mem_zipIdx' (List.mem_reverse.1 hp)).2▸List.getElem_mem _;exact ⟨(hok _ this).2.1,(hok _ this).2.2⟩
def Yet (ws:List (Nat×List Value)) (hok:Ydn ws):List Wr:=ws.zipIdx.reverse.pmap (fun p h=>(⟨(p.2,p.1),h⟩:Wr)) (Yw8 hok)
theorem Yi0 (ws:List (Nat×List Value)) (hok:Ydn ws):(Yet ws hok).length=ws.length:=by simp [Yet]
theorem Yqv (ws:List (Nat×List Value)) (hok:Ydn ws) (j:Nat) (x:Wr) (h:(Yet ws hok)[j]? = some x):j<ws.length∧x.1.1=ws.length - 1 - j∧ws[ws.length - 1 - j]? = some x.1.2:=by
 have hj:j<ws.length:=by have:=(List.getElem?_eq_some_iff.1 h).1;rw [Yi0] at this;exact this
 obtain ⟨h1,h2⟩:=List.getElem?_eq_some_iff.1 h;refine ⟨hj,?_⟩;simp [Yet] at h2;subst h2;exact ⟨by simp,by simp [List.getElem?_eq_getElem (show ws.length - 1 - j<ws.length by omega)]⟩
theorem Yqw (ws:List (Nat×List Value)) (hok:Ydn ws):(Yet ws hok).map (·.1.2)=ws.reverse:=by
 apply List.ext_getElem?;intro j;by_cases hj:j<ws.length
 ·have hb:j<(Yet ws hok).length:=by rw [Yi0];exact hj
  obtain ⟨_,_,h3⟩:=Yqv ws hok j _ (List.getElem?_eq_getElem hb);rw [List.getElem?_map,List.getElem?_eq_getElem hb,List.getElem?_reverse hj,h3];rfl
 ·rw [List.getElem?_eq_none (by simp [Yi0];omega),List.getElem?_eq_none (by simp;omega)]
theorem Yhe.back {w:World} {v:Value} {ws:List (Nat×List Value)} (hok:Ydn ws) (h:Yhe w v ws):Yh5 w.heap.size w v (Yet ws hok):=by
 rcases h with ⟨h1,h2⟩ | ⟨g,cap,cur,h1,h2,h3⟩
 ·subst h2;exact .inl ⟨h1,rfl⟩
 ·refine .inr ⟨g,cap,by rw [Yi0];exact h1,Yaj h2,fun j x hx=>?_⟩
  obtain ⟨hj,e1,e2⟩:=Yqv ws hok j x hx;rw [Yi0];refine ⟨e1,fun i u hu=>Yaa h2 (h3 _ _ (Ymr ws (fun p hp=>(hok p hp).2.1) _ _ e2 i u hu))⟩
theorem Yw9 {D:Array Value} {ws:List (Nat×List Value)} {a:Nat} (hok:Ydn ws) {pre:List Wr} {x:Wr} (hp:pre ++ [x] <+: Yet ws hok) (hn:∀ y∈pre,y.1.2.1≠a) (hx:x.1.2.1=a):Yay D ws a=x.1.2.2:=by
 obtain ⟨r,hr⟩:=hp;have hm:=Yqw ws hok;rw [←hr] at hm;have:ws.reverse.find? (fun p=>p.1 == a)=some x.1.2:=by
  rw [←hm,List.append_assoc,List.map_append,List.find?_append];have h0:(pre.map (·.1.2)).find? (fun p=>p.1 == a)=none:=by
   rw [List.find?_eq_none];intro p hp;obtain ⟨y,hy,rfl⟩:=List.mem_map.1 hp;simpa using hn y hy
  rw [h0];simp [hx]
 simp [Yay,this]
theorem Yxa {D:Array Value} {ws:List (Nat×List Value)} {a:Nat} (hok:Ydn ws) (hn:∀ y∈Yet ws hok,y.1.2.1≠a):Yay D ws a=(D.extract (a*64) (a*64+64)).toList:=by
 have hm:=Yqw ws hok;have:ws.reverse.find? (fun p=>p.1 == a)=none:=by
  rw [←hm,List.find?_eq_none];intro p hp;obtain ⟨y,hy,rfl⟩:=List.mem_map.1 hp;simpa using hn y hy
 simp [Yay,this]
theorem Yf3:∀ (S:List Value) (C:Array Value) (o j:Nat),(Ycg C o S)[j]? = if o≤j∧j<o+S.length∧j<C.size then S[j - o]? else C[j]?
 | [],C,o,j=>by rw [if_neg (by simp;omega)];rfl
 | v :: r,C,o,j=>by
  rw [Ycg,Yf3 r _ (o+1) j,Array.size_setIfInBounds,Array.getElem?_setIfInBounds];by_cases h1:o=j
  ·subst h1
   rw [if_neg (by omega),if_pos rfl];by_cases h2:o<C.size
   ·rw [if_pos h2,if_pos (by simp;omega)];simp
   ·rw [if_neg h2,if_neg (by simp;omega)];exact (Array.getElem?_eq_none (by omega)).symm
  ·rw [if_neg h1]
   by_cases h2:o+1≤j∧j<o+1+r.length∧j<C.size
   ·rw [if_pos h2,if_pos (by simp;omega)]
    obtain ⟨k,rfl⟩:∃ k,j=o+1+k:=⟨j - (o+1),by omega⟩;rw [show o+1+k - (o+1)=k by omega,show o+1+k - o=k+1 by omega];rfl
   ·rw [if_neg h2,if_neg (by simp;omega)]
theorem Yqx (Z:Array Value) (S:List Value) (h:Z.size=S.length):Ycg Z 0 S=S.toArray:=by
 apply Array.ext_getElem?;intro j;rw [Yf3];by_cases hj:j<S.length
 ·rw [if_pos (by omega)];simp
 ·rw [if_neg (by omega),Array.getElem?_eq_none (by omega),Array.getElem?_eq_none (by simp;omega)]
def Yqy (Q:Exit→Act→World→Prop):Exit→Act→World→Prop
 | .panic _,_,_=>False
 | e,a,w=>Q e a w
theorem Yxb (Q:Exit→Act→World→Prop):∀ e a w,Yqy Q e a w→Q e a w:=by
 intro e a w h
 cases e <;> first | exact h | exact h.elim
theorem Yxc {Q:Exit→Act→World→Prop} {a:Act} {w:World} (h:Q .normal a w):Yqy Q .normal a w:=h
theorem Yi1:∀ (S:List Value) (w:World) {B:Nat} (b o:Nat),B≤b→Below B w (w.setCells b o S)
 | [],w,B,_,_,_=>Below.refl B w
 | u :: r,w,B,b,o,h=>((Below.refl B w).setCell (p:=⟨b,o,none⟩) h u).trans (Yi1 r _ b (o+1) h)
theorem Ynj:∀ (S:List Value) (w:World) (b o:Nat),KeepsOthers w (w.setCells b o S)
 | [],w,_,_=>KeepsOthers.refl w
 | u :: r,w,b,o=>(KeepsOthers.setCell w ⟨b,o,none⟩ u).trans (Ynj r _ b (o+1))
theorem Yxd (db a:Nat) (ws:List (Nat×List Value)) (v:Value) (D:Array Value) (w:World) (ha:a<434) (hok:Ydn ws) (hn:ws.length≤100000) (hD:w.heap[db]? = some (.cells D 103 (0,0))) (hDz:D.size=27779) (hDv:D[27776]? = some v)
 (hrow:Yhe w v ws) (hD1:∀ u∈D.extract (a*64) (a*64+64),u.oneCell'=true):
 Calls prog 107 #[.pointer (some ⟨db,0,none⟩),.int .i64 (a:Int)] w fun e w'=>e=.returned (.agg (Yay D ws a).toArray)∧Below w.heap.size w w':=by
 have hc:w.cell? ⟨db,27776,none⟩=some v:=Yaa hD hDv
 obtain ⟨ad,len,cap,rfl⟩:∃ ad len cap,v=.slice ad len cap:=by
  rcases hrow with ⟨h,_⟩ | ⟨g,cap,cur,h,_⟩
  ·exact ⟨_,_,_,h⟩
  ·exact ⟨_,_,_,h⟩
 have hdw:db<w.heap.size:=Yaj hD
 have HD:=Yh hD
 have HBK:Hid (Yh5 w.heap.size w (.slice ad len cap) (Yet ws hok)):=hrow.back hok
 have hL:=Yi0 ws hok
 have HF:Hid (∀ pre x,pre ++ [x] <+: Yet ws hok→(∀ y∈pre,y.1.2.1≠a)→x.1.2.1=a→Yay D ws a=x.1.2.2):=fun pre x h1 h2 h3=>Yw9 hok h1 h2 h3
 have HN:Hid ((∀ y∈Yet ws hok,y.1.2.1≠a)→Yay D ws a=(D.extract (a*64) (a*64+64)).toList):=fun h=>Yxa hok h
 have HR:Hid (∀ W,Below w.heap.size w W→W.rangeAt db (a*64) (D.extract (a*64) (a*64+64)).toList):=fun W hW j u hu=>by
  have:=World.rangeAt_of_block ((hW.block db hdw).trans hD) (a*64) 64 j u;exact this hu
 have HDs:Hid ((D.extract (a*64) (a*64+64)).size=64):=by show _=_;rw [Array.size_extract];omega
 have HD1:Hid (∀ u∈(D.extract (a*64) (a*64+64)).toList,u.oneCell'=true):=fun u hu=>hD1 u (Array.mem_toList_iff.1 hu)
 generalize D.extract (a*64) (a*64+64)=X at HN HR HDs HD1
 generalize Yet ws hok=zs at HBK hL HF HN
 clear hD hDv hrow hDz hD1
 refine (callsIn_wide (n:=10)).1 ?_
 refine callsIn_of_wp_marks func107 rfl trivial ?_ rfl
 simp only [ntmps107,List.size_toArray,List.length_cons,List.length_nil,Nat.reduceAdd,Nat.reduceSub,Array.replicate_succ,Array.replicate_zero,List.push_toArray,List.append_toArray,List.nil_append,List.cons_append]
 refine wpIn_wide.2 ?_
 go_wp2_with (first
  | (go_at_call 153;refine (Yw6 _ _ _ _).mono ?_;rintro e w' ⟨rfl,rfl⟩))
 have hz64:(List.replicate 64 (Value.int .u8 0)).toArray.size=64:=by simp
 change Code.wp _ _ _ _ (((w.alloc (.cells #[.int .i64 (a:Int)] 3)).alloc (.cells (List.replicate 64 (Value.int .u8 0)).toArray 98)).alloc (.cells #[.slice ad len cap] 100))
 obtain ⟨Z,hZ⟩:∃ Z,(List.replicate 64 (Value.int .u8 0)).toArray=Z:=⟨_,rfl⟩
 rw [hZ] at hz64 ⊢
 clear hZ
 obtain ⟨W0,hW0⟩:∃ W0,((w.alloc (.cells #[.int .i64 (a:Int)] 3)).alloc (.cells Z 98)).alloc (.cells #[.slice ad len cap] 100)=W0:=⟨_,rfl⟩
 have hB0:Below w.heap.size w W0:=by rw [←hW0];exact (((Below.refl _ w).alloc (Nat.le_refl _) _).alloc (by simp) _).alloc (by simp;omega) _
 have hsz:W0.heap.size=w.heap.size+3:=by rw [←hW0];simp
 have b0:W0.heap[w.heap.size]? = some (.cells #[.int .i64 (a:Int)] 3 (0,0)):=by
  rw [←hW0,Below.heap_alloc _ _ _ (by simp;omega),Below.heap_alloc _ _ _ (by simp)];exact heap_alloc_new w _
 have b1:W0.heap[w.heap.size+1]? = some (.cells Z 98 (0,0)):=by
  rw [←hW0,Below.heap_alloc _ _ _ (by simp)];have:=heap_alloc_new (w.alloc (.cells #[.int .i64 (a:Int)] 3)) (.cells Z 98);simpa using this
 have b2:W0.heap[w.heap.size+1+1]? = some (.cells #[.slice ad len cap] 100 (0,0)):=by
  rw [←hW0];have:=heap_alloc_new ((w.alloc (.cells #[.int .i64 (a:Int)] 3)).alloc (.cells Z 98)) (.cells #[.slice ad len cap] 100);simpa using this
 rw [hW0]
 clear hW0
 have hBK0:Yh5 W0.heap.size W0 (.slice ad len cap) zs:=by
  rcases HBK.out.below hB0 with h | ⟨b,c,h1,h2,h3⟩
  ·exact .inl h
  ·exact .inr ⟨b,c,h1,by omega,h3⟩
 have hI93:(prog.info? 98).map (·.size)=some 64:=Yjw
 have HB0:=Yh hB0
 clear HBK hB0
 refine (wpIn_wide (n:=10)).1 ?_
 refine wpIn_rangeFunc_ownH (F:=Fence.wide) (n:=10) rfl (by omega) (gf:=202) (lb:=#[.pointer (some ⟨w.heap.size+1+1,0,none⟩)]) rfl trivial (enters_of func202 (by kernel_rfl) rfl)
  (Yw7 Fence.wide 9 trivial rfl (by omega) (w.heap.size+1+1) W0.heap.size (.slice ad len cap) zs (by omega) W0 (by omega) (Nat.le_refl _) (Yaa b2 rfl) hBK0) belowK_t (belowK_b (Nat.le_refl _)) (Below.refl _ _) (fun _=>rfl)
  (fun pre W=>(∀ y∈pre,y.1.2.1≠a)∧Below W0.heap.size W0 W)
  (fun c pre W=>(c=.ret∧∃ pre' x,pre=pre' ++ [x]∧(∀ y∈pre',y.1.2.1≠a)∧x.1.2.1=a∧W.heap[w.heap.size+1]? = some (.cells x.1.2.2.toArray 98 (0,0)))∧Below w.heap.size w W)
  (OwnFrom.and (ownFrom_pure _ _) (ownFrom_below (Nat.le_refl _) (Nat.le_refl _)))
  (fun c s A B row hs hg hr=>by
   obtain ⟨⟨hc,pre',x,h1,h2,h3,h4⟩,h5⟩:=hs;exact ⟨⟨hc,pre',x,h1,h2,h3,Ylf (w.heap.size+1) 98 (fun (_:Unit)=>x.1.2.2.toArray) () A B row h4 hg (fun r e=>(hr r e).2)⟩,ownFrom_below (β:=Unit) (Nat.le_refl _) (by omega) () A B row h5 hg hr⟩)
  ⟨by simp,Below.refl _ _⟩
  (fun x a' W=>∃ Bx,W0.heap.size≤Bx∧W.heap[Bx]? = some (.cells x.cells.toArray 143 (0,0))∧a' = { tmps:=#[.pointer (some ⟨db,0,none⟩),.int .i64 (a:Int),undef,.pointer (some ⟨w.heap.size,0,none⟩),.pointer (some ⟨w.heap.size+1,0,none⟩),undef,.pointer (some ⟨Bx,0,none⟩),.pointer (some ⟨db,0,none⟩),.pointer (some ⟨db,0,none⟩),.pointer (some ⟨db,27776,none⟩),.slice ad len cap,.func (.func 202) #[] #[.pointer (some ⟨w.heap.size+1+1,0,none⟩)],.int .i64 (x.1.1:Int),.agg x.cells.toArray,undef,undef,undef,undef,undef,undef,undef,undef,undef,undef,undef,undef],defers:=[] })
  (fun x a' _ X Y row hs hg hr=>by obtain ⟨Bx,e1,e2,e3⟩:=hs;exact ⟨Bx,e1,Ylf Bx 143 (fun (_:Unit)=>x.cells.toArray) () X Y row e2 hg (fun r e=>(hr r e).2),e3⟩)
  ?assign ?body ?done ?stop
 case assign=>
  rintro l pre x W K ⟨hp,hB1⟩ hK;have hi149:(prog.info? 143).map (·.size)=some x.cells.toArray.size:=by rw [List.size_toArray,Wr.cells_length];exact Yms
  have HC1:Hid (x.cells.toArray.all (·.oneCell')=true):=all_oneCell_toArray (Wr.cells_one x);gi_wp2_with (first
   | (
    refine Yw3 rfl 143 (.tmp 6) (.tmp 13) rfl _ x.cells.toArray (by rfl) (by rfl) ?hz hi149 HC1.out ?_
    case hz=>rw [Ymm];simp [Wr.cells_length]))
  exact hK _ _ ((KeepsOthers.alloc _ _).from _) ((Below.refl _ W).alloc hB1.size _) ⟨hp,hB1.alloc hB1.size _⟩ ⟨W.heap.size,hB1.size,heap_alloc_new W _,rfl⟩
 case body=>
  rintro l pre x a' W hl hloop ⟨hp,hB1⟩ ⟨Bx,hBx,bX,rfl⟩ hlt;obtain ⟨⟨i,s,S⟩,h64,hone⟩:=x;have bX':W.heap[Bx]? = some (.cells (Value.int .i64 (s:Int) :: S).toArray 143 (0,0)):=bX;have cX:W.cell? ⟨Bx,0,none⟩=some (.int .i64 (s:Int)):=Yaa bX' rfl;have cA:W.cell? ⟨w.heap.size,0,none⟩=some (.int .i64 (a:Int)):=(hB1.cell (p:=⟨w.heap.size,0,none⟩) (by simp;omega)).trans (Yaa b0 rfl);have HR1:W.rangeAt Bx 1 S:=fun j u hu=>Yaa bX' (by rw [Nat.add_comm];simpa using hu)
  have hb1:W.heap[w.heap.size+1]? = some (.cells Z 98 (0,0)):=(hB1.block _ (by omega)).trans b1;have HB1:=Yh hB1;have HBX:=Yh hb1;have hT:W.there (w.heap.size+1) 0 S.toArray.size:=Yiq hb1 _ _ (by simp at h64 ⊢;omega);have hi107:(prog.info? 98).map (·.size)=some S.length:=by simp at h64;rw [h64];exact Yjw
  have HS1:Hid (S.toArray.all (·.oneCell')=true):=all_oneCell_toArray hone;clear bX bX' hb1 hB1;by_cases hsa:s=a
  ·have hse:((s:Int) == (a:Int))=true:=by simp [hsa]
   gi_wp2_with (first
    | (refine Yqu rfl 98 (.tmp 18) rfl Bx 1 (by rfl) S _ HR1 underlying98 rfl hi107 ?_)
    | (refine Yw2 rfl 98 (.tmp 4) (.tmp 19) rfl (w.heap.size+1) 0 S.toArray (by rfl) (by rfl) hT (by simpa using hi107) HS1.out ?_))
   have e1:(W.setCells (w.heap.size+1) 0 S).heap[w.heap.size+1]? = some (.cells S.toArray 98 (0,0)):=by
    rw [Yhx S W _ 0 Z _ HBX.out,Yqx Z S (by simp at h64;omega)]
   have e2:Below w.heap.size w (W.setCells (w.heap.size+1) 0 S):=(HB0.out.trans (HB1.out.mono HB0.out.size)).trans (Yi1 S W _ 0 (by omega));exact ⟨(Ynj S W _ 0).from _,⟨rfl,pre,⟨(i,s,S),h64,hone⟩,rfl,hp,hsa,e1⟩,e2⟩
  ·have hse:((s:Int) == (a:Int))=false:=by simp;omega
   gi_wp2;refine ⟨KeepsFrom.refl _ _,Below.refl _ _,fun y hy=>?_,HB1.out⟩;rcases List.mem_append.1 hy with h | h
   ·exact hp y h
   ·simp at h;subst h;exact hsa
 case done=>
  rintro Dk ys W hDk rfl ⟨hp,hB1⟩ hK;have cA:W.cell? ⟨w.heap.size,0,none⟩=some (.int .i64 (a:Int)):=(hB1.cell (p:=⟨w.heap.size,0,none⟩) (by simp;omega)).trans (Yaa b0 rfl);have hb1:W.heap[w.heap.size+1]? = some (.cells Z 98 (0,0)):=(hB1.block _ (by omega)).trans b1;have HBX:=Yh hb1;have HB2:Hid (Below w.heap.size w W):=HB0.out.trans (hB1.mono HB0.out.size);have hr:W.rangeAt db (a*64) X.toList:=HR.out W HB2.out;have hT:W.there (w.heap.size+1) 0 X.toList.toArray.size:=Yiq hb1 _ _ (by have:=HDs.out;simp;omega);have hi107:(prog.info? 98).map (·.size)=some X.toList.length:=by have:=HDs.out;rw [Array.length_toList,this];exact Yjw
  have HS1:Hid (X.toList.toArray.all (·.oneCell')=true):=all_oneCell_toArray HD1.out;have HZ:Hid (Yay D ws a=X.toList):=HN.out hp;have haI:(a:Int)<434:=by omega
  clear hb1 hB1 HN HF hc b0 b1 b2 hBK0;go_wp2;refine Code.wp_mono (Yxb _) ?_;refine wp_region_any (by kernel_rfl) ?_;change wpAny _ _ _ _ _ _ _ W.drew;refine wpAny_take (i:=0) (v:=(Value.pointer (some ⟨db,0,none⟩))) rfl (by kernel_rfl) (by kernel_rfl) (by kernel_rfl) (fun _ _ _ h=>h) (Or.inl ⟨by rfl,?_⟩) ?_
  ·intro wz;go_simp
  refine wpAny_take (i:=2) (v:=(Value.pointer (some ⟨db,0,none⟩))) rfl (by kernel_rfl) (by kernel_rfl) (by kernel_rfl) (fun _ _ _ h=>h) (Or.inl ⟨by rfl,?_⟩) ?_
  ·intro wz;go_simp
  refine wpAny_take (i:=3) (v:=(Value.pointer (some ⟨db,0,none⟩))) rfl (by kernel_rfl) (by kernel_rfl) (by kernel_rfl) (fun _ _ _ h=>h) (Or.inl ⟨by rfl,?_⟩) ?_
  ·intro wz;go_simp
  refine wpAny_ready (rs:=[1]) (by kernel_rfl) (by simp) ?_;refine AllReady.cons rfl (fun K hK=>?_) AllReady.nil;go_simp;refine hK _ _ ?_;clear hK K;refine wpAny_ready (rs:=[4]) (by kernel_rfl) (by simp) ?_;refine AllReady.cons rfl (fun K hK=>?_) AllReady.nil;go_simp;refine hK _ _ ?_;clear hK K;refine wpAny_ready (rs:=[5]) (by kernel_rfl) (by simp) ?_;refine AllReady.cons rfl (fun K hK=>?_) AllReady.nil;refine Yio rfl 98 (.tmp 24) rfl db (a*64) (by rfl) X.toList _ hr underlying98 rfl hi107 ?_;refine hK _ _ ?_;clear hK K;refine wpAny_ready (rs:=[6]) (by kernel_rfl) (by simp) ?_;refine AllReady.cons rfl (fun K hK=>?_) AllReady.nil;refine Ymt rfl 98 (.tmp 4) (.tmp 25) rfl (w.heap.size+1) 0 X.toList.toArray (by rfl) (by rfl) hT (by simpa using hi107) HS1.out ?_;refine hK _ _ ?_;clear hK K;refine wpAny_done (by kernel_rfl) (Yxc ?_) _;go_wp2;have e1:(W.drew.setCells (w.heap.size+1) 0 X.toList).heap[w.heap.size+1]? = some (.cells X.toList.toArray 98 (0,0)):=by
   rw [Yhx X.toList W.drew _ 0 Z _ HBX.out,Yqx Z X.toList (by have:=HDs.out;simp;omega)]
  have e2:Below w.heap.size w (W.drew.setCells (w.heap.size+1) 0 X.toList):=HB2.out.drew.trans (Yi1 X.toList W.drew _ 0 (by omega));have hK':(W.drew.setCells (w.heap.size+1) 0 X.toList).heap[Dk]? = some (.deferred (some [])):=(Ynj X.toList W.drew (w.heap.size+1) 0).same Dk _ hK rfl;refine ⟨by simp,.inl ⟨_,_,rfl,run_takeDeferred hK',?_⟩⟩;refine ⟨.agg X.toList.toArray,results_cell_row Tryz.results107 _ _ (w.heap.size+1) 98 X.toList.toArray (0,0) _ rfl (Ylf (w.heap.size+1) 98 (fun (_:Unit)=>X.toList.toArray) () _ _ (some Dk) e1 (grownBy_putObj' _ Dk (.deferred none)) (fun r e=>by cases e;exact ⟨_,hK',rfl⟩)) underlying98 rfl (by simpa using hi107),by rw [HZ.out],e2.trans (belowK_b (w:=w) (Nat.le_refl _) _ Dk _ _ (by omega) hK' rfl rfl)⟩
 case stop=>
  rintro Dk c pre W hDk hpre ⟨⟨rfl,pre',x,rfl,h2,h3,h4⟩,h5⟩ hK;have HZ:=HF.out pre' x hpre h2 h3;gi_wp2;refine ⟨by simp,.inl ⟨_,_,rfl,run_takeDeferred hK,?_⟩⟩;have hi107:(prog.info? 98).map (·.size)=some x.1.2.2.length:=by rw [x.2.1];exact Yjw
  refine ⟨.agg x.1.2.2.toArray,results_cell_row Tryz.results107 _ _ (w.heap.size+1) 98 x.1.2.2.toArray (0,0) _ rfl (Ylf (w.heap.size+1) 98 (fun (_:Unit)=>x.1.2.2.toArray) () _ _ (some Dk) h4 (grownBy_putObj' _ Dk (.deferred none)) (fun r e=>by cases e;exact ⟨_,hK,rfl⟩)) underlying98 rfl (by simpa using hi107),by rw [HZ],h5.trans (belowK_b (w:=w) (Nat.le_refl _) _ Dk _ _ (by omega) hK rfl rfl)⟩
end Go.Proofs.YtihbngfbcnojcaaGreat
namespace Go.Proofs.YtihbngfbcnojcaaGreat
open Go.RowKit Tryz
variable {W w:World}
def u8s (l:List Int):List Value:=l.map (Value.int .u8)
theorem Yj7 (l:List Int):(u8s l).length=l.length:=by simp [u8s]
def Sec (l:List Int):Prop:=l.length=64∧∀ x∈l,0≤x∧x<256
def st1 (l:List Int):Int:=Ybk (l.take 4)
def st2 (l:List Int):Int:=Ybk ((l.drop 4).take 4)
def st3 (l:List Int):Int:=Ybk ((l.drop 56).take 4)
def st4 (l:List Int):Int:=Ybk ((l.drop 60).take 4)
theorem Yxe {b:Nat} {l:List Int} {t:TypeId} (h:w.heap[b]? = some (.cells (u8s l).toArray t (0,0))) (hr:∀ x∈l,0≤x∧x<256) (k n:Nat):Yd7 w b k ((l.drop k).take n):=fun j x hj=>by
 have hj':l[k+j]? = some x:=by
  rw [List.getElem?_take] at hj;split at hj
  ·rw [List.getElem?_drop] at hj;exact hj
  ·cases hj
 exact ⟨Yaa h (by simp [u8s,hj']),hr x (List.mem_of_getElem? hj')⟩
theorem bal {B:Nat} {w0:World} (hz:B≤w0.heap.size) (h:Below B w0 W) (o:Obj):Below B w0 (W.alloc o):=h.alloc (by have:=h.size;omega) o
theorem Yxf (w:World) (o1 o2 o3:Obj):((((w.alloc o1).alloc o2).alloc o3).heap[w.heap.size]? = some o1)∧((((w.alloc o1).alloc o2).alloc o3).heap[w.heap.size+1]? = some o2)∧((((w.alloc o1).alloc o2).alloc o3).heap[w.heap.size+2]? = some o3)∧(((w.alloc o1).alloc o2).alloc o3).heap.size=w.heap.size+3∧Below w.heap.size w (((w.alloc o1).alloc o2).alloc o3):=by
 refine ⟨?_,?_,?_,by simp,(((Below.refl _ w).alloc (Nat.le_refl _) _).alloc (by simp) _).alloc (by simp;omega) _⟩
 ·rw [Below.heap_alloc _ _ _ (by simp;omega),Below.heap_alloc _ _ _ (by simp)];exact heap_alloc_new w _
 ·rw [Below.heap_alloc _ _ _ (by simp)]
  have:=heap_alloc_new (w.alloc o1) o2;simpa using this
 ·have:=heap_alloc_new ((w.alloc o1).alloc o2) o3;simpa using this
theorem Yqz (l:List Int) (hl:Sec l) (w:World):
 Calls prog 166 #[.agg (u8s l).toArray] w fun e w'=>e=.returned (.tuple #[.agg #[.int .u32 (st1 l),.int .u32 (st2 l)],.agg #[.int .u32 (st3 l),.int .u32 (st4 l)]])∧Below w.heap.size w w':=by
 obtain ⟨S,hS⟩:∃ S,u8s l=S:=⟨_,rfl⟩
 have hsz:S.length=64:=by rw [←hS,Yj7];exact hl.1
 have HA:Hid (∀ (W:World) (k n:Nat),W.heap[w.heap.size]? = some (.cells S.toArray 98 (0,0))→Yd7 W w.heap.size k ((l.drop k).take n)):=fun W k n h=>Yxe (by rw [hS];exact h) hl.2 k n
 rw [hS]
 have hl1:(l.take 4).length=4:=by have:=hl.1;simp;omega
 have hl2:((l.drop 4).take 4).length=4:=by have:=hl.1;simp;omega
 have hl3:((l.drop 56).take 4).length=4:=by have:=hl.1;simp;omega
 have hl4:((l.drop 60).take 4).length=4:=by have:=hl.1;simp;omega
 have HL:Hid ((l.take 4).length=4∧((l.drop 4).take 4).length=4∧((l.drop 56).take 4).length=4∧((l.drop 60).take 4).length=4):=⟨hl1,hl2,hl3,hl4⟩
 clear hS hl hl1 hl2 hl3 hl4
 go_enter func166,ntmps166
 go_wp2
 obtain ⟨k1,k2,k3,k4,k5⟩:=Yxf w (.cells S.toArray 98) (.cells #[.int .u32 0,.int .u32 0] 168) (.cells #[.int .u32 0,.int .u32 0] 168)
 revert k1 k2 k3 k4 k5
 generalize ((w.alloc (.cells S.toArray 98)).alloc (.cells #[.int .u32 0,.int .u32 0] 168)).alloc (.cells #[.int .u32 0,.int .u32 0] 168)=w0
 intro k1 k2 k3 k4 k5
 have H1:=Yh k1
 have H2:=Yh k2
 have H3:=Yh k3
 have H4:=Yh k4
 have H5:=Yh k5
 have hzz:w.heap.size+3≤w0.heap.size:=by omega
 clear k1 k2 k3 k4 k5
 have HW:Hid (Below (w.heap.size+3) w0 w0):=Below.refl _ _
 have SA:Hid (∀ W,Below (w.heap.size+3) w0 W→Calls prog 212 #[.slice (some ⟨w.heap.size,0,none⟩) 8 64] W fun e w'=>e=.returned (.agg #[.int .u32 (st1 l),.int .u32 (st2 l)])∧Below (w.heap.size+3) w0 w'):=fun W hW=>by
  have hk:=(hW.block w.heap.size (by omega)).trans H1.out;refine (Ypo w.heap.size 0 64 (l.take 4) ((l.drop 4).take 4) W (Yaj hk) (by omega) (by omega) (HA.out W 0 4 hk) (HA.out W 4 4 hk) HL.out.1 HL.out.2.1).mono ?_;rintro e w' ⟨rfl,hb⟩;exact ⟨rfl,hW.trans (hb.mono (by have:=hW.size;omega))⟩
 have SB:Hid (∀ W,Below (w.heap.size+3) w0 W→Calls prog 212 #[.slice (some ⟨w.heap.size,56,none⟩) 8 8] W fun e w'=>e=.returned (.agg #[.int .u32 (st3 l),.int .u32 (st4 l)])∧Below (w.heap.size+3) w0 w'):=fun W hW=>by
  have hk:=(hW.block w.heap.size (by omega)).trans H1.out;refine (Ypo w.heap.size 56 8 ((l.drop 56).take 4) ((l.drop 60).take 4) W (Yaj hk) (by omega) (by omega) (HA.out W 56 4 hk) (HA.out W 60 4 hk) HL.out.2.2.1 HL.out.2.2.2).mono ?_;rintro e w' ⟨rfl,hb⟩;exact ⟨rfl,hW.trans (hb.mono (by have:=hW.size;omega))⟩
 have hX:∀ W,Below (w.heap.size+3) w0 W→(W.cell? ⟨w.heap.size+1,0,none⟩=some (.int .u32 0)∧W.cell? ⟨w.heap.size+1,1,none⟩=some (.int .u32 0)∧W.cell? ⟨w.heap.size+2,0,none⟩=some (.int .u32 0)∧W.cell? ⟨w.heap.size+2,1,none⟩=some (.int .u32 0))∧(W.frozen? ⟨w.heap.size+1,0,none⟩=false∧W.frozen? ⟨w.heap.size+1,1,none⟩=false∧W.frozen? ⟨w.heap.size+2,0,none⟩=false∧W.frozen? ⟨w.heap.size+2,1,none⟩=false):=fun W hW=>by
  have q2:=(hW.block (w.heap.size+1) (by omega)).trans H2.out;have q3:=(hW.block (w.heap.size+2) (by omega)).trans H3.out;exact ⟨⟨Yaa q2 rfl,Yaa q2 rfl,Yaa q3 rfl,Yaa q3 rfl⟩,Yah 0 q2,Yah 1 q2,Yah 0 q3,Yah 1 q3⟩
 have HX:=Yh hX
 clear hX
 go_region_with (first
  | (go_at_call_of 212 (64:Nat);go_must (
   refine (SA.out _ ?hW).mono ?_
   case hW=>repeat (first | exact HW.out | refine bal hzz ?_ _ | refine Below.drew ?_)
   rintro e w1 ⟨rfl,hW1⟩;have HW1:=Yh hW1;clear hW1))
  | (go_at_call 212;go_must (
   refine (SB.out _ ?hW).mono ?_
   case hW=>repeat (first | exact HW1.out | refine bal hzz ?_ _ | refine Below.drew ?_)
   rintro e w2 ⟨rfl,hW2⟩;have HW2:=Yh hW2;obtain ⟨⟨y1,y2,y3,y4⟩,z1,z2,z3,z4⟩:=HX.out w2 hW2;clear hW2)))
 all_goals
  go_wp2;have q2:=(HW2.out.block (w.heap.size+1) (by omega)).trans H2.out;have q3:=(HW2.out.block (w.heap.size+1+1) (by omega)).trans H3.out;obtain ⟨x1,hx1⟩:∃ x,Value.int .u32 (st1 l)=x:=⟨_,rfl⟩;obtain ⟨x2,hx2⟩:∃ x,Value.int .u32 (st2 l)=x:=⟨_,rfl⟩;obtain ⟨x3,hx3⟩:∃ x,Value.int .u32 (st3 l)=x:=⟨_,rfl⟩;obtain ⟨x4,hx4⟩:∃ x,Value.int .u32 (st4 l)=x:=⟨_,rfl⟩;rw [hx1,hx2,hx3,hx4];have r2:((((w2.setCell ⟨w.heap.size+1,0,none⟩ x1).setCell ⟨w.heap.size+1,1,none⟩ x2).setCell ⟨w.heap.size+1+1,0,none⟩ x3).setCell ⟨w.heap.size+1+1,1,none⟩ x4).heap[w.heap.size+1]? = some (.cells #[x1,x2] 168 (0,0)):=by
   rw [Below.heap_setCell _ _ _ _ (by simp),Below.heap_setCell _ _ _ _ (by simp)];exact Yak _ _ 1 x2 _ _ (Yak w2 _ 0 x1 _ _ q2)
  have r3:((((w2.setCell ⟨w.heap.size+1,0,none⟩ x1).setCell ⟨w.heap.size+1,1,none⟩ x2).setCell ⟨w.heap.size+1+1,0,none⟩ x3).setCell ⟨w.heap.size+1+1,1,none⟩ x4).heap[w.heap.size+1+1]? = some (.cells #[x3,x4] 168 (0,0)):=by
   have q3':((w2.setCell ⟨w.heap.size+1,0,none⟩ x1).setCell ⟨w.heap.size+1,1,none⟩ x2).heap[w.heap.size+1+1]? = some (.cells #[.int .u32 0,.int .u32 0] 168 (0,0)):=by
    rw [Below.heap_setCell _ _ _ _ (by simp),Below.heap_setCell _ _ _ _ (by simp)];exact q3
   exact Yak _ _ 1 x4 _ _ (Yak _ _ 0 x3 _ _ q3')
  have rb:Below w.heap.size w ((((w2.setCell ⟨w.heap.size+1,0,none⟩ x1).setCell ⟨w.heap.size+1,1,none⟩ x2).setCell ⟨w.heap.size+1+1,0,none⟩ x3).setCell ⟨w.heap.size+1+1,1,none⟩ x4):=
   ((((H5.out.trans (HW2.out.mono (by omega))).setCell (p:=⟨w.heap.size+1,0,none⟩) (by simp) _).setCell (p:=⟨w.heap.size+1,1,none⟩) (by simp) _).setCell (p:=⟨w.heap.size+1+1,0,none⟩) (by simp;omega) _).setCell (p:=⟨w.heap.size+1+1,1,none⟩) (by simp;omega) _
  revert r2 r3 rb;generalize ((((w2.setCell ⟨w.heap.size+1,0,none⟩ x1).setCell ⟨w.heap.size+1,1,none⟩ x2).setCell ⟨w.heap.size+1+1,0,none⟩ x3).setCell ⟨w.heap.size+1+1,1,none⟩ x4)=wf;intro r2 r3 rb;have m0:=Yaa (j:=0) r2 rfl;have m1:=Yaa (j:=1) r2 rfl;have m2:=Yaa (j:=0) r3 rfl;have m3:=Yaa (j:=1) r3 rfl;refine bodyPost_ret (v:=.tuple #[.agg #[x1,x2],.agg #[x3,x4]]) ?_ rfl ⟨rfl,rb⟩;simp [results,Tryz.results166,go_sem,m0,m1,m2,m3]
theorem Yxg (l:List Int) (hl:Sec l) (w:World) (t:Bool) (ht:(decide (st1 l=st3 l∧st2 l=st4 l)) = !t):
 Calls prog 118 #[.agg (u8s l).toArray] w fun e w'=>e=.returned (.bool t)∧Below w.heap.size w w':=by
 have KE:=fun w=>Yqz l hl w
 obtain ⟨S,hS⟩:∃ S,u8s l=S:=⟨_,rfl⟩
 have hsz:S.length=64:=by rw [←hS,Yj7];exact hl.1
 rw [hS] at KE ⊢
 obtain ⟨q1,hq1⟩:∃ q,st1 l=q:=⟨_,rfl⟩
 obtain ⟨q2,hq2⟩:∃ q,st2 l=q:=⟨_,rfl⟩
 obtain ⟨q3,hq3⟩:∃ q,st3 l=q:=⟨_,rfl⟩
 obtain ⟨q4,hq4⟩:∃ q,st4 l=q:=⟨_,rfl⟩
 rw [hq1,hq2,hq3,hq4] at KE ht
 have hi:(prog.info? 98).map (·.size)=some S.length:=by rw [hsz];kernel_rfl
 have HR:Hid ((w.alloc (.cells S.toArray 98)).rangeAt w.heap.size 0 S):=fun j u hu=>by rw [Nat.zero_add];exact Yaa (heap_alloc_new w _) (by simpa using hu)
 have HT:=Yh ht
 clear hS hl hq1 hq2 hq3 hq4 ht
 go_enter func118,ntmps118
 go_wp2_with (first
  | (refine wpList_load_mid rfl 98 (.tmp 1) rfl w.heap.size 0 (by rfl) S _ HR.out underlying98 rfl hi ?_)
  | (go_at_call 166;go_must (
   refine (KE _).mono ?_;rintro e w1 ⟨rfl,hb1⟩;have HB1:Hid (Below w.heap.size w w1):=((Below.refl _ _).alloc (Nat.le_refl _) _).trans (hb1.mono (by simp));clear hb1)))
 all_goals
  go_ret;refine ⟨?_,(HB1.out.alloc HB1.out.size _).alloc (by have:=HB1.out.size;simp;omega) _⟩;have hh:=HT.out
  cases t <;> simp_all
theorem Ynk (w:World):
 Calls prog 168 #[] w fun e w'=>e=.returned (.agg #[.int .u32 4294967295,.int .u32 4294967295])∧Below w.heap.size w w':=by
 go_enter func168,ntmps168
 go_wp2
 exact bodyPost_ret (results_cell_row Tryz.results168 _ _ w.heap.size 168 _ (0,0) _ rfl (heap_alloc_new w _) underlying168 rfl (by kernel_rfl)) rfl ⟨rfl,(Below.refl _ _).alloc (Nat.le_refl _) _⟩
def Y5y (l:List Int):Bool:=decide (st1 l=st3 l∧st2 l=st4 l) && !decide (st1 l=4294967295∧st2 l=4294967295)
theorem Yj8 {S:List Value} {T:TypeId} (hB:Below w.heap.size w W) (h1:W.heap[w.heap.size+1]? = some (.cells #[.int .u32 0,.int .u32 0] 168 (0,0))) (h0:W.heap[w.heap.size]? = some (.cells S.toArray T (0,0))) (x y:Value):
 Below w.heap.size w ((W.setCell ⟨w.heap.size+1,0,none⟩ x).setCell ⟨w.heap.size+1,1,none⟩ y)∧((W.setCell ⟨w.heap.size+1,0,none⟩ x).setCell ⟨w.heap.size+1,1,none⟩ y).heap[w.heap.size]? = some (.cells S.toArray T (0,0))∧((W.setCell ⟨w.heap.size+1,0,none⟩ x).setCell ⟨w.heap.size+1,1,none⟩ y).heap[w.heap.size+1]? = some (.cells #[x,y] 168 (0,0)):=by
 refine ⟨(hB.setCell (p:=⟨w.heap.size+1,0,none⟩) (by simp) _).setCell (p:=⟨w.heap.size+1,1,none⟩) (by simp) _,?_,?_⟩
 ·rw [Below.heap_setCell _ _ _ _ (by simp),Below.heap_setCell _ _ _ _ (by simp)];exact h0
 ·exact Yak _ _ 1 y _ 168 (Yak W (w.heap.size+1) 0 x _ 168 h1)
theorem Yxh (l:List Int) (hl:Sec l) (w:World) (t i:Bool) (ht:(decide (st1 l=st3 l∧st2 l=st4 l)) = !t) (hi:decide (st1 l=4294967295∧st2 l=4294967295)=i):
 Calls prog 151 #[.agg (u8s l).toArray] w fun e w'=>Below w.heap.size w w' ∧
  (t=false∧i=false→e=.returned (.tuple #[.agg #[.int .u32 (st1 l),.int .u32 (st2 l)],.slice (some ⟨w.heap.size,8,none⟩) 48 56,.bool true])∧w'.heap[w.heap.size]? = some (.cells (u8s l).toArray 98 (0,0))) ∧
  (¬(t=false∧i=false)→e=.returned (.tuple #[.agg #[.int .u32 0,.int .u32 0],.slice none 0 0,.bool false])):=by
 have KE:=fun w=>Yqz l hl w
 have KT:=fun w=>Yxg l hl w t ht
 obtain ⟨S,hS⟩:∃ S,u8s l=S:=⟨_,rfl⟩
 have hsz:S.length=64:=by rw [←hS,Yj7];exact hl.1
 rw [hS] at KE KT ⊢
 obtain ⟨q1,hq1⟩:∃ q,st1 l=q:=⟨_,rfl⟩
 obtain ⟨q2,hq2⟩:∃ q,st2 l=q:=⟨_,rfl⟩
 obtain ⟨q3,hq3⟩:∃ q,st3 l=q:=⟨_,rfl⟩
 obtain ⟨q4,hq4⟩:∃ q,st4 l=q:=⟨_,rfl⟩
 rw [hq1,hq2,hq3,hq4] at KE
 rw [hq1,hq2] at hi ⊢
 have hi9:(prog.info? 98).map (·.size)=some S.length:=by rw [hsz];kernel_rfl
 have HR:Hid (∀ W:World,W.heap[w.heap.size]? = some (.cells S.toArray 98 (0,0))→W.rangeAt w.heap.size 0 S):=fun W hW j u hu=>by rw [Nat.zero_add];exact Yaa hW (by simpa using hu)
 have HKE:=Yh KE
 have HKT:=Yh KT
 clear hS hl hq1 hq2 hq3 hq4 ht KE KT
 go_enter func151,ntmps151
 go_wp2_with (first
  | (refine wpList_load_mid rfl 98 (.tmp 1) rfl w.heap.size 0 (by rfl) S _ (HR.out _ ((Below.heap_alloc _ _ _ (by simp)).trans (heap_alloc_new w _))) underlying98 rfl hi9 ?_)
  | (go_at_call 166;go_must (
   refine (HKE.out _).mono ?_;rintro e w1 ⟨rfl,hb1⟩;have HB1:Hid (Below (w.heap.size+2) ((w.alloc (.cells S.toArray 98)).alloc (.cells #[.int .u32 0,.int .u32 0] 168)) w1):=by show Below _ _ _;simpa using hb1
   clear hb1)))
 have hz1:w.heap.size+2≤w1.heap.size:=by have:=HB1.out.size;simp at this;omega
 have s0:w1.heap[w.heap.size]? = some (.cells S.toArray 98 (0,0)):=(HB1.out.block _ (by omega)).trans ((Below.heap_alloc _ _ _ (by simp)).trans (heap_alloc_new w _))
 have s1:w1.heap[w.heap.size+1]? = some (.cells #[.int .u32 0,.int .u32 0] 168 (0,0)):=(HB1.out.block _ (by omega)).trans (by have:=heap_alloc_new (w.alloc (.cells S.toArray 98)) (.cells #[.int .u32 0,.int .u32 0] 168);simpa using this)
 obtain ⟨W2,hW2⟩:∃ W2,(w1.alloc (.cells #[.int .u32 q1,.int .u32 q2] 168)).alloc (.cells #[.int .u32 q3,.int .u32 q4] 168)=W2:=⟨_,rfl⟩
 have HB2:Hid (Below w.heap.size w W2):=by
  show Below _ _ _;rw [←hW2];exact ((((((Below.refl _ w).alloc (Nat.le_refl _) _).alloc (by simp) _).trans (HB1.out.mono (by omega))).alloc (by omega) _)).alloc (by simp;omega) _
 have hs0:W2.heap[w.heap.size]? = some (.cells S.toArray 98 (0,0)):=by rw [←hW2,Below.heap_alloc _ _ _ (by simp;omega),Below.heap_alloc _ _ _ (by omega)];exact s0
 have hs1:W2.heap[w.heap.size+1]? = some (.cells #[.int .u32 0,.int .u32 0] 168 (0,0)):=by rw [←hW2,Below.heap_alloc _ _ _ (by simp;omega),Below.heap_alloc _ _ _ (by omega)];exact s1
 have hs5:W2.heap[w1.heap.size]? = some (.cells #[.int .u32 q1,.int .u32 q2] 168 (0,0)):=by rw [←hW2,Below.heap_alloc _ _ _ (by simp)];exact heap_alloc_new w1 _
 rw [hW2]
 generalize w1.heap.size+1=p6
 generalize w1.heap.size=p5 at hs5
 clear hW2 s0 s1 hz1 HB1
 have HS0:=Yh hs0
 have HS1:=Yh hs1
 have HS5:=Yh hs5
 have hrg:W2.rangeAt w.heap.size 0 S:=HR.out W2 hs0
 have r5:=Yaa (j:=0) hs5 rfl
 have r6:=Yaa (j:=1) hs5 rfl
 have HU:=underlying98
 clear hs0 hs1 hs5
 cases t with
 | true=>
  refine wp_region_any (by kernel_rfl) ?_;change wpAny _ _ _ _ _ _ _ W2.drew;refine wpAny_ready (rs:=[0]) (by kernel_rfl) (by simp) ?_;refine AllReady.cons rfl (fun K hK=>?_) AllReady.nil;refine Yio rfl 98 (.tmp 1) rfl w.heap.size 0 (by rfl) S _ hrg HU rfl hi9 ?_;refine hK _ _ ?_;clear hK K;refine wpAny_ready (rs:=[1]) (by kernel_rfl) (by simp) ?_;refine AllReady.cons rfl (fun K hK=>?_) AllReady.nil;go_simp;refine (HKT.out _).mono ?_;rintro e w3 ⟨rfl,hb3⟩;have HB3:Hid (Below W2.heap.size W2 w3):=(Below.refl _ _).drew.trans hb3;have q0:=(HB3.out.block _ (Yaj HS1.out)).trans HS1.out;have c0:=Yaa (j:=0) q0 rfl;have c1:=Yaa (j:=1) q0 rfl;have f0:=Yah 0 q0;have f1:=Yah 1 q0;clear hb3 q0;refine hK _ _ ?_;clear hK K;refine wpAny_ready (rs:=[2]) (by kernel_rfl) (by simp) ?_;refine AllReady.cons rfl (fun K hK=>?_) AllReady.nil;go_simp;refine hK _ _ ?_;clear hK K;refine wpAny_ready (rs:=[3,4]) (by kernel_rfl) (by simp) ?_;refine AllReady.cons rfl (fun K hK=>?_) (AllReady.cons rfl (fun K hK=>?_) AllReady.nil)
  ·go_simp
   refine hK _ _ ?_;clear hK K;refine wpAny_ready (rs:=[4]) (by kernel_rfl) (by simp) ?_;refine AllReady.cons rfl (fun K hK=>?_) AllReady.nil;go_simp;refine hK _ _ ?_;clear hK K;refine wpAny_ready (rs:=[5]) (by kernel_rfl) (by simp) ?_;refine AllReady.cons rfl (fun K hK=>?_) AllReady.nil;go_simp;refine hK _ _ ?_;clear hK K;refine wpAny_ready (rs:=[6]) (by kernel_rfl) (by simp) ?_;refine AllReady.cons rfl (fun K hK=>?_) AllReady.nil;go_simp;refine hK _ _ ?_;clear hK K;refine wpAny_done (by kernel_rfl) ?_ _;go_wp2;obtain ⟨k1,k2,k3⟩:=Yj8 (HB2.out.trans (HB3.out.mono HB2.out.size)) ((HB3.out.block _ (Yaj HS1.out)).trans HS1.out) ((HB3.out.block _ (Yaj HS0.out)).trans HS0.out) (.int .u32 0) (.int .u32 0);have m0:=Yaa (j:=0) k3 rfl;have m1:=Yaa (j:=1) k3 rfl;refine bodyPost_ret (v:=.tuple #[.agg #[.int .u32 0,.int .u32 0],.slice none 0 0,.bool false]) ?_ rfl ⟨k1,fun h=>absurd h.1 (by simp),fun _=>rfl⟩;simp [results,Tryz.results151,go_sem,m0,m1]
  ·go_simp
   refine hK _ _ ?_;clear hK K;refine wpAny_ready (rs:=[3]) (by kernel_rfl) (by simp) ?_;refine AllReady.cons rfl (fun K hK=>?_) AllReady.nil;go_simp;refine hK _ _ ?_;clear hK K;refine wpAny_ready (rs:=[5]) (by kernel_rfl) (by simp) ?_;refine AllReady.cons rfl (fun K hK=>?_) AllReady.nil;go_simp;refine hK _ _ ?_;clear hK K;refine wpAny_ready (rs:=[6]) (by kernel_rfl) (by simp) ?_;refine AllReady.cons rfl (fun K hK=>?_) AllReady.nil;go_simp;refine hK _ _ ?_;clear hK K;refine wpAny_done (by kernel_rfl) ?_ _;go_wp2;obtain ⟨k1,k2,k3⟩:=Yj8 (HB2.out.trans (HB3.out.mono HB2.out.size)) ((HB3.out.block _ (Yaj HS1.out)).trans HS1.out) ((HB3.out.block _ (Yaj HS0.out)).trans HS0.out) (.int .u32 0) (.int .u32 0);have m0:=Yaa (j:=0) k3 rfl;have m1:=Yaa (j:=1) k3 rfl;refine bodyPost_ret (v:=.tuple #[.agg #[.int .u32 0,.int .u32 0],.slice none 0 0,.bool false]) ?_ rfl ⟨k1,fun h=>absurd h.1 (by simp),fun _=>rfl⟩;simp [results,Tryz.results151,go_sem,m0,m1]
 | false=>
  cases i with
  | true=>
   simp only [decide_eq_true_eq] at hi;obtain ⟨rfl,rfl⟩:=hi;go_region_held3 (fun w'=>w'.rangeAt w.heap.size 0 S∧w'.cell? ⟨p5,0,none⟩=some (.int .u32 4294967295)∧w'.cell? ⟨p5,1,none⟩=some (.int .u32 4294967295))
    (go_keep)
    (first
   | (go_at_call 118;go_must (
    refine (HKT.out _).mono ?_;rintro e w3 ⟨rfl,hb3⟩;have HB3:Hid (Below W2.heap.size W2 w3):=(Below.refl _ _).drew.trans hb3;have q0:=(HB3.out.block _ (Yaj HS1.out)).trans HS1.out;have c0:=Yaa (j:=0) q0 rfl;have c1:=Yaa (j:=1) q0 rfl;have f0:=Yah 0 q0;have f1:=Yah 1 q0;have r5':=Yaa (j:=0) ((HB3.out.block _ (Yaj HS5.out)).trans HS5.out) rfl;have r6':=Yaa (j:=1) ((HB3.out.block _ (Yaj HS5.out)).trans HS5.out) rfl;have hrg':w3.rangeAt w.heap.size 0 S:=HR.out w3 ((HB3.out.block _ (Yaj HS0.out)).trans HS0.out);clear hb3 q0))
   | (go_at_call 168;go_must (
    refine (Ynk _).mono ?_;rintro e w4 ⟨rfl,hb4⟩;have HB4:Hid (Below W2.heap.size W2 w4):=HB3.out.trans (hb4.mono HB3.out.size);have q0:=(HB4.out.block _ (Yaj HS1.out)).trans HS1.out;have d0:=Yaa (j:=0) q0 rfl;have d1:=Yaa (j:=1) q0 rfl;have g0:=Yah 0 q0;have g1:=Yah 1 q0;have r5'':=Yaa (j:=0) ((HB4.out.block _ (Yaj HS5.out)).trans HS5.out) rfl;have r6'':=Yaa (j:=1) ((HB4.out.block _ (Yaj HS5.out)).trans HS5.out) rfl;have hrg'':w4.rangeAt w.heap.size 0 S:=HR.out w4 ((HB4.out.block _ (Yaj HS0.out)).trans HS0.out);clear hb4 q0)))
   all_goals
    go_wp2;obtain ⟨k1,k2,k3⟩:=Yj8 (HB2.out.trans (HB4.out.mono HB2.out.size)) ((HB4.out.block _ (Yaj HS1.out)).trans HS1.out) ((HB4.out.block _ (Yaj HS0.out)).trans HS0.out) (.int .u32 0) (.int .u32 0);have m0:=Yaa (j:=0) k3 rfl;have m1:=Yaa (j:=1) k3 rfl;refine bodyPost_ret (v:=.tuple #[.agg #[.int .u32 0,.int .u32 0],.slice none 0 0,.bool false]) ?_ rfl ⟨k1,rfl⟩;simp [results,Tryz.results151,go_sem,m0,m1]
  | false=>
   have HI:Hid (¬(q1=4294967295∧q2=4294967295)):=of_decide_eq_false hi;clear hi;by_cases h1:q1=4294967295
   ·have h2:¬q2=4294967295:=fun h=>HI.out ⟨h1,h⟩
    go_region_held3 (fun w'=>w'.rangeAt w.heap.size 0 S∧w'.cell? ⟨p5,0,none⟩=some (.int .u32 q1)∧w'.cell? ⟨p5,1,none⟩=some (.int .u32 q2))
     (go_keep)
     (first
    | (go_at_call 118;go_must (
     refine (HKT.out _).mono ?_;rintro e w3 ⟨rfl,hb3⟩;have HB3:Hid (Below W2.heap.size W2 w3):=(Below.refl _ _).drew.trans hb3;have q0:=(HB3.out.block _ (Yaj HS1.out)).trans HS1.out;have c0:=Yaa (j:=0) q0 rfl;have c1:=Yaa (j:=1) q0 rfl;have f0:=Yah 0 q0;have f1:=Yah 1 q0;have r5':=Yaa (j:=0) ((HB3.out.block _ (Yaj HS5.out)).trans HS5.out) rfl;have r6':=Yaa (j:=1) ((HB3.out.block _ (Yaj HS5.out)).trans HS5.out) rfl;have hrg':w3.rangeAt w.heap.size 0 S:=HR.out w3 ((HB3.out.block _ (Yaj HS0.out)).trans HS0.out);clear hb3 q0))
    | (go_at_call 168;go_must (
     refine (Ynk _).mono ?_;rintro e w4 ⟨rfl,hb4⟩;have HB4:Hid (Below W2.heap.size W2 w4):=HB3.out.trans (hb4.mono HB3.out.size);have q0:=(HB4.out.block _ (Yaj HS1.out)).trans HS1.out;have d0:=Yaa (j:=0) q0 rfl;have d1:=Yaa (j:=1) q0 rfl;have g0:=Yah 0 q0;have g1:=Yah 1 q0;have r5'':=Yaa (j:=0) ((HB4.out.block _ (Yaj HS5.out)).trans HS5.out) rfl;have r6'':=Yaa (j:=1) ((HB4.out.block _ (Yaj HS5.out)).trans HS5.out) rfl;have hrg'':w4.rangeAt w.heap.size 0 S:=HR.out w4 ((HB4.out.block _ (Yaj HS0.out)).trans HS0.out);clear hb4 q0)))
    all_goals
     subst h1;go_wp2;go_region
     all_goals
      go_wp2;obtain ⟨k1,k2,k3⟩:=Yj8 (HB2.out.trans (HB4.out.mono HB2.out.size)) ((HB4.out.block _ (Yaj HS1.out)).trans HS1.out) ((HB4.out.block _ (Yaj HS0.out)).trans HS0.out) (.int .u32 4294967295) (.int .u32 q2);have m0:=Yaa (j:=0) k3 rfl;have m1:=Yaa (j:=1) k3 rfl;refine bodyPost_ret (v:=.tuple #[.agg #[.int .u32 4294967295,.int .u32 q2],.slice (some ⟨w.heap.size,8,none⟩) 48 56,.bool true]) ?_ rfl ⟨k1.drew,rfl,k2⟩;simp [results,Tryz.results151,go_sem,m0,m1]
   ·go_region_held3 (fun w'=>w'.rangeAt w.heap.size 0 S∧w'.cell? ⟨p5,0,none⟩=some (.int .u32 q1)∧w'.cell? ⟨p5,1,none⟩=some (.int .u32 q2))
     (go_keep)
     (first
    | (go_at_call 118;go_must (
     refine (HKT.out _).mono ?_;rintro e w3 ⟨rfl,hb3⟩;have HB3:Hid (Below W2.heap.size W2 w3):=(Below.refl _ _).drew.trans hb3;have q0:=(HB3.out.block _ (Yaj HS1.out)).trans HS1.out;have c0:=Yaa (j:=0) q0 rfl;have c1:=Yaa (j:=1) q0 rfl;have f0:=Yah 0 q0;have f1:=Yah 1 q0;have r5':=Yaa (j:=0) ((HB3.out.block _ (Yaj HS5.out)).trans HS5.out) rfl;have r6':=Yaa (j:=1) ((HB3.out.block _ (Yaj HS5.out)).trans HS5.out) rfl;have hrg':w3.rangeAt w.heap.size 0 S:=HR.out w3 ((HB3.out.block _ (Yaj HS0.out)).trans HS0.out);clear hb3 q0))
    | (go_at_call 168;go_must (
     refine (Ynk _).mono ?_;rintro e w4 ⟨rfl,hb4⟩;have HB4:Hid (Below W2.heap.size W2 w4):=HB3.out.trans (hb4.mono HB3.out.size);have q0:=(HB4.out.block _ (Yaj HS1.out)).trans HS1.out;have d0:=Yaa (j:=0) q0 rfl;have d1:=Yaa (j:=1) q0 rfl;have g0:=Yah 0 q0;have g1:=Yah 1 q0;have r5'':=Yaa (j:=0) ((HB4.out.block _ (Yaj HS5.out)).trans HS5.out) rfl;have r6'':=Yaa (j:=1) ((HB4.out.block _ (Yaj HS5.out)).trans HS5.out) rfl;have hrg'':w4.rangeAt w.heap.size 0 S:=HR.out w4 ((HB4.out.block _ (Yaj HS0.out)).trans HS0.out);clear hb4 q0)))
    all_goals
     go_wp2;go_region
     all_goals
      go_wp2;obtain ⟨k1,k2,k3⟩:=Yj8 (HB2.out.trans (HB4.out.mono HB2.out.size)) ((HB4.out.block _ (Yaj HS1.out)).trans HS1.out) ((HB4.out.block _ (Yaj HS0.out)).trans HS0.out) (.int .u32 q1) (.int .u32 q2);have m0:=Yaa (j:=0) k3 rfl;have m1:=Yaa (j:=1) k3 rfl;refine bodyPost_ret (v:=.tuple #[.agg #[.int .u32 q1,.int .u32 q2],.slice (some ⟨w.heap.size,8,none⟩) 48 56,.bool true]) ?_ rfl ⟨k1.drew,rfl,k2⟩;simp [results,Tryz.results151,go_sem,m0,m1]
def Yh6 (w w':World) (rb gb off len cap n:Nat) (bad:Bool):Prop:=
 Ydm w' rb (some ⟨gb,off+n,none⟩) (len - n) (cap - n) bad∧(∀ k,k≠rb→w'.heap[k]? = w.heap[k]?)∧w'.heap.size=w.heap.size∧Below 0 w w'
theorem Yq0 (w:World) (gb off cap:Nat) (s:ByteArray) (hb:∀ j u,(Lib.strCells s)[j]? = some u→w.cell? ⟨gb,off+j,none⟩=some u):
 (convert 46 9 (.slice (some ⟨gb,off,none⟩) s.size cap)).run prog w=.ok (.string s) w:=by
 have h:=run_convert_bytes_back (P:=prog) w 46 9 5 ⟨gb,off,none⟩ cap s.data.toList underlying46 underlying5 underlying9 (fun j hj=>by
  rw [Addr.add_mid];refine hb j _ ?_;simp only [Lib.strCells,List.getElem?_map,List.getElem?_eq_getElem hj,Option.map_some])
 have e1:s.data.toList.length=s.size:=Array.length_toList
 have e2:(⟨s.data.toList.toArray⟩:ByteArray)=s:=by cases s;simp
 rw [e1,e2] at h
 exact h
theorem Yq1 (rb gb off len cap l room:Nat) (bad:Bool) (w:World) (hr:Ydm w rb (some ⟨gb,off,none⟩) len cap bad) (hn:room≤len) (hl:len≤cap) (hc:cap≤1000) (hrc:room<cap) (hg:gb≠rb) (hlr:l≤room)
 (s:ByteArray) (hs:s.size=l) (hb:∀ j u,(Lib.strCells s)[j]? = some u→w.cell? ⟨gb,off+j,none⟩=some u):
 Calls prog 221 #[.pointer (some ⟨rb,0,none⟩),.int .i64 l,.int .i64 room] w fun e w'=>e=.returned (.string s)∧Yh6 w w' rb gb off len cap room bad:=by
 have KT:=Ypm rb gb off len cap room bad w hr hn hl hc
 have HB:=Yh hb
 have HSZ:=Yh hs
 clear hr hb hs
 go_enter func221,ntmps221
 go_wp2_with (first | (go_at_call 201;go_must (
  refine KT.mono ?_;rintro e w1 ⟨rfl,ad,had,hr1,ho1,hz1,hb1⟩;have HFIN:Hid (Yh6 w w1 rb gb off len cap room bad):=⟨by rw [←had hrc];exact hr1,ho1,hz1,hb1⟩;have hcv:=Yq0 w1 gb off cap s (fun j u hu=>(World.cell?_of_block (ho1 gb hg)).trans (HB.out j u hu));rw [HSZ.out] at hcv;clear had hr1 ho1 hz1 hb1 KT)))
 go_ret
 exact ⟨rfl,HFIN.out⟩
theorem Ylg (rb gb off len cap room:Nat) (bad:Bool) (w:World) (hr:Ydm w rb (some ⟨gb,off,none⟩) len cap bad) (hn:1+room≤len) (hl:len≤cap) (hc:cap≤1000) (hrc:1+room<cap) (hg:gb≠rb) (h4:room≤200)
 (s:ByteArray) (hs:s.size≤room) (hb:∀ j u,(Ya1 s room)[j]? = some u→w.cell? ⟨gb,off+j,none⟩=some u):
 Calls prog 197 #[.pointer (some ⟨rb,0,none⟩),.int .i64 room] w fun e w'=>e=.returned (.string s)∧Yh6 w w' rb gb off len cap (1+room) bad:=by
 have KN:=Yg7 rb gb off len cap 1 bad [(s.size:Int)] w hr (by omega) hl hc hg rfl (fun j b hj=>by
  match j,hj with
  | 0,hj=>
   simp at hj;subst hj;exact ⟨hb 0 _ rfl,by omega,by omega⟩) (by omega)
 have HB:=Yh hb
 have e1:Ybk [(s.size:Int)]=(s.size:Int):=by simp [Ybk]
 rw [e1] at KN
 clear hr hb e1
 go_enter func197,ntmps197
 go_wp2_with (first
  | (go_at_call 152;go_must (
   refine KN.mono ?_;rintro e w1 ⟨rfl,ad,had,hr1,ho1,hz1,hb1⟩;obtain rfl:=had (by omega);have HC:=Yh (Yq1 rb gb (off+1) (len - 1) (cap - 1) s.size room bad w1 hr1 (by omega) (by omega) (by omega) (by omega) hg hs s rfl (fun j u hu=>by
    have hjl:j<s.size:=by have:=(List.getElem?_eq_some_iff.1 hu).1;rwa [Lib.strCells_length] at this
    have:=HB.out (1+j) u (by simp only [Ya1];rw [List.getElem?_append_left (by simp [Lib.strCells_length];omega),List.getElem?_append_right (by simp)];simpa using hu);rw [World.cell?_of_block (ho1 gb hg),Nat.add_assoc];exact this))
   have HF:=Yh (And.intro ho1 (And.intro hz1 hb1));clear hr1 ho1 hz1 hb1 had KN))
  | (go_at_call 221;go_must (
   refine Calls.mono HC.out ?_;rintro e w2 ⟨rfl,hrd⟩)))
 go_ret
 obtain ⟨h1,h2,h3,h4'⟩:=hrd
 obtain ⟨g1,g2,g3⟩:=HF.out
 refine ⟨rfl,?_,fun k hk=>(h2 k hk).trans (g1 k hk),h3.trans g2,g3.trans h4'⟩
 rw [Nat.add_assoc,Nat.sub_sub,Nat.sub_sub] at h1
 exact h1
theorem Yxi {s:ByteArray} (h:s.size=0):s=ByteArray.empty:=by
 cases s with
 | mk d=>simp [ByteArray.size] at h;subst h;rfl
theorem Yq2 (w w1 w2:World) (rb gb off len cap:Nat) (bad is:Bool) (s:ByteArray) (hrl:rb<w.heap.size)
 (hF:(∀ k,k≠rb→w1.heap[k]? = (w.alloc (.cells #[.bool false,.string ⟨#[]⟩] 38)).heap[k]?)∧w1.heap.size=(w.alloc (.cells #[.bool false,.string ⟨#[]⟩] 38)).heap.size∧Below 0 (w.alloc (.cells #[.bool false,.string ⟨#[]⟩] 38)) w1)
 (hrd:Yh6 w1 w2 rb gb (off+1) (len - 1) (cap - 1) 12 bad) (hk:w2.heap[w.heap.size]? = some (.cells #[.bool false,.string ⟨#[]⟩] 38))
 (a:Act) (ha:a.tmps.getD 2 undef=.pointer (some ⟨w.heap.size,0,none⟩)) (hd:a.defers=[]):
 bodyPost prog Tryz.f198 (fun e w'=>e=.returned (.agg #[.bool is,.string s])∧Ydm w' rb (some ⟨gb,off+13,none⟩) (len - 13) (cap - 13) bad∧(∀ k,k<w.heap.size→k≠rb→w'.heap[k]? = w.heap[k]?)∧Below 0 w w') .ret a
  ((w2.setCell ⟨w.heap.size,0,none⟩ (.bool is)).setCell ⟨w.heap.size,1,none⟩ (.string s)):=by
 have hfin:=Yak _ w.heap.size 1 (.string s) _ 38 (Yak w2 w.heap.size 0 (.bool is) _ 38 hk)
 obtain ⟨h1,h2,h3,h4⟩:=hrd
 obtain ⟨g1,g2,g3⟩:=hF
 have old:∀ k,k<w.heap.size→((w2.setCell ⟨w.heap.size,0,none⟩ (.bool is)).setCell ⟨w.heap.size,1,none⟩ (.string s)).heap[k]? = w2.heap[k]?:=fun k hk=>by
  rw [Below.heap_setCell _ _ _ _ (by simp;omega),Below.heap_setCell _ _ _ _ (by simp;omega)]
 refine bodyPost_ret (v:=.agg #[.bool is,.string s]) ?_ hd ⟨rfl,?_,fun k hk hne=>?_,?_⟩
 ·exact results_cell_row Tryz.results198 _ _ w.heap.size 38 #[.bool is,.string s] (0,0) _ ha hfin underlying38 rfl (by kernel_rfl)
 ·show _=_
  rw [old rb hrl];rw [show off+13=off+1+12 by omega,show len - 13=len - 1 - 12 by omega,show cap - 13=cap - 1 - 12 by omega];exact h1
 ·rw [old k hk,h2 k hne,g1 k hne];exact Below.heap_alloc _ _ _ hk
 ·exact ((((Below.refl 0 w).alloc (by omega) _).trans (g3.trans h4)).setCell (p:=⟨w.heap.size,0,none⟩) (by simp) _).setCell (p:=⟨w.heap.size,1,none⟩) (by simp) _
theorem Yq3 (rb gb off len cap:Nat) (bad:Bool) (w:World) (hr:Ydm w rb (some ⟨gb,off,none⟩) len cap bad) (hn:13≤len) (hl:len≤cap) (hc:cap≤1000) (hrc:13<cap) (hg:gb≠rb) (hgl:gb<w.heap.size)
 (is:Bool) (s:ByteArray) (hs:s.size≤12) (hi:is=false→s.size=0) (hb:∀ j u,(Yb7 is s)[j]? = some u→w.cell? ⟨gb,off+j,none⟩=some u):
 Calls prog 198 #[.pointer (some ⟨rb,0,none⟩)] w fun e w'=>e=.returned (.agg #[.bool is,.string s])∧Ydm w' rb (some ⟨gb,off+13,none⟩) (len - 13) (cap - 13) bad∧(∀ k,k<w.heap.size→k≠rb→w'.heap[k]? = w.heap[k]?)∧Below 0 w w':=by
 have hrl:rb<w.heap.size:=Yaj hr
 have hr0:∀ o,Ydm (w.alloc o) rb (some ⟨gb,off,none⟩) len cap bad:=fun o=>(Below.heap_alloc w o rb hrl).trans hr
 have hb0:∀ o j u,(Yb7 is s)[j]? = some u→(w.alloc o).cell? ⟨gb,off+j,none⟩=some u:=fun o j u hu=>(World.cell?_of_block (Below.heap_alloc w o gb hgl)).trans (hb j u hu)
 have KN:=fun o=>Yg7 rb gb off len cap 1 bad [(s.size:Int)+if is then 1 else 0] (w.alloc o) (hr0 o) (by omega) hl hc hg rfl (fun j b hj=>by
  match j,hj with
  | 0,hj=>
   simp only [List.getElem?_cons_zero,Option.some.injEq] at hj;subst hj;exact ⟨hb0 o 0 _ rfl,by split <;> omega,by split <;> omega⟩) (by omega)
 have HKN:=Yh KN
 have HB:=Yh hb0
 clear hr hb hr0 hb0 KN
 have e1:∀ x:Int,Ybk [x]=x:=by intro x;simp [Ybk]
 simp only [e1] at HKN
 clear e1
 have CH:Hid (∀ w1:World,Ydm w1 rb (some ⟨gb,off+1,none⟩) (len - 1) (cap - 1) bad→(∀ k,k≠rb→w1.heap[k]? = (w.alloc (.cells #[.bool false,.string ⟨#[]⟩] 38)).heap[k]?)→Calls prog 221 #[.pointer (some ⟨rb,0,none⟩),.int .i64 (s.size:Int),.int .i64 (12:Nat)] w1 fun e w'=>e=.returned (.string s)∧Yh6 w1 w' rb gb (off+1) (len - 1) (cap - 1) 12 bad):=by
  intro w1 hr1 ho1;refine Yq1 rb gb (off+1) (len - 1) (cap - 1) s.size 12 bad w1 hr1 (by omega) (by omega) (by omega) (by omega) hg hs s rfl (fun j u hu=>?_);have hjl:j<s.size:=by have:=(List.getElem?_eq_some_iff.1 hu).1;rwa [Lib.strCells_length] at this
  have:=HB.out (.cells #[.bool false,.string ⟨#[]⟩] 38) (1+j) u (by simp only [Yb7];rw [List.getElem?_append_left (by simp [Lib.strCells_length];omega),List.getElem?_append_right (by simp)];simpa using hu);rw [World.cell?_of_block (ho1 gb hg),Nat.add_assoc];exact this
 cases is
 ·obtain rfl:=Yxi (hi rfl)
  clear hi;go_enter func198,ntmps198;go_wp2_with (first
   | (go_at_call 152;go_must (
    refine Calls.mono (HKN.out _) ?_;rintro e w1 ⟨rfl,ad,had,hr1,ho1,hz1,hb1⟩;obtain rfl:=had (by omega);have HC:=Yh (CH.out w1 hr1 ho1);have HF:=Yh (And.intro ho1 (And.intro hz1 hb1));clear hr1 ho1 hz1 hb1 had))
   | (go_at_call 221;go_must (
    refine Calls.mono HC.out ?_;rintro e w2 ⟨rfl,hrd⟩;have hk:w2.heap[w.heap.size]? = some (.cells #[.bool false,.string ⟨#[]⟩] 38):=((hrd.2.1 _ (by omega)).trans (HF.out.1 _ (by omega))).trans (heap_alloc_new w _);have f0:=Yah 0 hk;have f1:=Yah 1 hk;have g0:=Yaa (j:=0) hk rfl;have g1:=Yaa (j:=1) hk rfl;have HK:=Yh hk;have HRD:=Yh hrd;clear hk hrd HC)))
  exact Yq2 w w1 w2 rb gb off len cap bad false ByteArray.empty hrl HF.out HRD.out HK.out _ rfl rfl
 ·clear hi
  go_enter func198,ntmps198;go_wp2_with (first
   | (go_at_call 152;go_must (
    refine Calls.mono (HKN.out _) ?_;rintro e w1 ⟨rfl,ad,had,hr1,ho1,hz1,hb1⟩;obtain rfl:=had (by omega);have HC:=Yh (CH.out w1 hr1 ho1);have HF:=Yh (And.intro ho1 (And.intro hz1 hb1));clear hr1 ho1 hz1 hb1 had))
   | (go_at_call 221;go_must (
    refine Calls.mono HC.out ?_;rintro e w2 ⟨rfl,hrd⟩;have hk:w2.heap[w.heap.size]? = some (.cells #[.bool false,.string ⟨#[]⟩] 38):=((hrd.2.1 _ (by omega)).trans (HF.out.1 _ (by omega))).trans (heap_alloc_new w _);have f0:=Yah 0 hk;have f1:=Yah 1 hk;have g0:=Yaa (j:=0) hk rfl;have g1:=Yaa (j:=1) hk rfl;have HK:=Yh hk;have HRD:=Yh hrd;clear hk hrd HC)))
  exact Yq2 w w1 w2 rb gb off len cap bad true s hrl HF.out HRD.out HK.out _ rfl rfl
theorem Ye9 {pre x post:List Value} {j:Nat} {u:Value} (h:x[j]? = some u):(pre ++ x ++ post)[pre.length+j]? = some u:=by
 have hj:j<x.length:=(List.getElem?_eq_some_iff.1 h).1;rw [List.append_assoc,List.getElem?_append_right (by omega),List.getElem?_append_left (by omega)];simpa using h
theorem Ylh {gb off:Nat} {n:Int} {k:Nat} (h:∀ j u,(be n k)[j]? = some u→w.cell? ⟨gb,off+j,none⟩=some u):Yd7 w gb off (beI n k):=by
 intro j b hj;refine ⟨h j _ ?_,Yju n k b (List.mem_of_getElem? hj)⟩;rw [←Ymk,List.getElem?_map,hj];rfl
structure Yq4 (w:World) (m:Nat) (e:Yac):Prop where
 kind:Yd7 w m 8 (beI e.kind 1)
 tx:Yd7 w m (8+1) (beI e.tx 1)
 prev:Yd7 w m (8+1+1) (beI e.prev 2)
 next:Yd7 w m (8+1+1+2) (beI e.next 2)
 key:∀ j u,(Ya1 e.key 8)[j]? = some u→w.cell? ⟨m,8+1+1+2+2+j,none⟩=some u
 old:∀ j u,(Yb7 e.oldIs e.old)[j]? = some u→w.cell? ⟨m,8+1+1+2+2+(1+8)+j,none⟩=some u
 new:∀ j u,(Yb7 e.newIs e.new)[j]? = some u→w.cell? ⟨m,8+1+1+2+2+(1+8)+13+j,none⟩=some u
theorem Yxj (a b:Int) (bl:List Value) {j:Nat} {u:Value} (h:bl[j]? = some u):(Yam a b bl)[8+j]? = some u:=by
 have:=Ye9 (pre:=be a 4 ++ be b 4) (x:=bl) (post:=List.replicate (48 - bl.length) (Value.int .u8 0) ++ (be a 4 ++ be b 4)) h;rw [List.length_append,Yeq,Yeq] at this;rw [Yam,List.append_assoc (be a 4 ++ be b 4 ++ bl)];exact this
theorem Yxk {m:Nat} {a b:Int} {e:Yac} (he:e.Fits) (h:w.heap[m]? = some (.cells (Yam a b e.body).toArray 98)):Yq4 w m e:=by
 have hc:∀ i u,e.body[i]? = some u→w.cell? ⟨m,8+i,none⟩=some u:=fun i u hu=>Yaa h (by simpa using Yxj a b e.body hu)
 have l1:=Yeq e.kind 1;have l2:=Yeq e.tx 1;have l3:=Yeq e.prev 2;have l4:=Yeq e.next 2;have l5:=Yky e.key 8 he.key;have l6:=Ymj e.oldIs e.old he.old;refine ⟨Ylh fun j u hu=>?_,Ylh fun j u hu=>?_,Ylh fun j u hu=>?_,Ylh fun j u hu=>?_,fun j u hu=>?_,fun j u hu=>?_,fun j u hu=>?_⟩
 ·exact hc j u (by
   have:=Ye9 (pre:=[]) (x:=be e.kind 1) (post:=be e.tx 1 ++ be e.prev 2 ++ be e.next 2 ++ Ya1 e.key 8 ++ Yb7 e.oldIs e.old ++ Yb7 e.newIs e.new) hu;simpa [Yac.body,List.append_assoc] using this)
 ·have:=hc (1+j) u (by
   have:=Ye9 (pre:=be e.kind 1) (x:=be e.tx 1) (post:=be e.prev 2 ++ be e.next 2 ++ Ya1 e.key 8 ++ Yb7 e.oldIs e.old ++ Yb7 e.newIs e.new) hu;rw [l1] at this;simpa [Yac.body,List.append_assoc] using this)
  rw [show 8+1+j=8+(1+j) by omega];exact this
 ·have:=hc (2+j) u (by
   have:=Ye9 (pre:=be e.kind 1 ++ be e.tx 1) (x:=be e.prev 2) (post:=be e.next 2 ++ Ya1 e.key 8 ++ Yb7 e.oldIs e.old ++ Yb7 e.newIs e.new) hu;rw [List.length_append,l1,l2] at this;simpa only [Yac.body,List.append_assoc] using this)
  rw [show 8+1+1+j=8+(2+j) by omega];exact this
 ·have:=hc (4+j) u (by
   have:=Ye9 (pre:=be e.kind 1 ++ be e.tx 1 ++ be e.prev 2) (x:=be e.next 2) (post:=Ya1 e.key 8 ++ Yb7 e.oldIs e.old ++ Yb7 e.newIs e.new) hu;rw [List.length_append,List.length_append,l1,l2,l3] at this;simpa only [Yac.body,List.append_assoc] using this)
  rw [show 8+1+1+2+j=8+(4+j) by omega];exact this
 ·have:=hc (6+j) u (by
   have:=Ye9 (pre:=be e.kind 1 ++ be e.tx 1 ++ be e.prev 2 ++ be e.next 2) (x:=Ya1 e.key 8) (post:=Yb7 e.oldIs e.old ++ Yb7 e.newIs e.new) hu;rw [List.length_append,List.length_append,List.length_append,l1,l2,l3,l4] at this;simpa only [Yac.body,List.append_assoc] using this)
  rw [show 8+1+1+2+2+j=8+(6+j) by omega];exact this
 ·have:=hc (15+j) u (by
   have:=Ye9 (pre:=be e.kind 1 ++ be e.tx 1 ++ be e.prev 2 ++ be e.next 2 ++ Ya1 e.key 8) (x:=Yb7 e.oldIs e.old) (post:=Yb7 e.newIs e.new) hu;rw [List.length_append,List.length_append,List.length_append,List.length_append,l1,l2,l3,l4,l5] at this;simpa only [Yac.body,List.append_assoc] using this)
  rw [show 8+1+1+2+2+(1+8)+j=8+(15+j) by omega];exact this
 ·have:=hc (28+j) u (by
   have:=Ye9 (pre:=be e.kind 1 ++ be e.tx 1 ++ be e.prev 2 ++ be e.next 2 ++ Ya1 e.key 8 ++ Yb7 e.oldIs e.old) (x:=Yb7 e.newIs e.new) (post:=[]) hu;rw [List.length_append,List.length_append,List.length_append,List.length_append,List.length_append,l1,l2,l3,l4,l5,l6,List.append_nil] at this;simpa only [Yac.body,List.append_assoc] using this)
  rw [show 8+1+1+2+2+(1+8)+13+j=8+(28+j) by omega];exact this
def Ycm (u:Value):Prop:=∃ x:Int,u=.int .u8 x∧0≤x∧x<256
theorem Ygp (n:Int) (k:Nat):∀ u∈be n k,Ycm u:=by
 induction k with
 | zero=>simp [be]
 | succ k ih=>
  intro u hu;simp only [be,List.mem_cons] at hu;rcases hu with rfl | hu
  ·exact ⟨_,rfl,by omega,by omega⟩
  ·exact ih u hu
theorem Yq5 (s:ByteArray):∀ u∈Lib.strCells s,Ycm u:=by
 intro u hu;simp only [Lib.strCells,List.mem_map] at hu;obtain ⟨b,_,rfl⟩:=hu;exact ⟨_,rfl,by omega,by have:=b.toNat_lt;omega⟩
theorem Ynl (n:Nat):∀ u∈List.replicate n (Value.int .u8 0),Ycm u:=fun u hu=>by rw [List.eq_of_mem_replicate hu];exact ⟨0,rfl,by omega,by omega⟩
theorem Yj9 (s:ByteArray) (r:Nat) (hs:s.size<256):∀ u∈Ya1 s r,Ycm u:=by
 intro u hu;simp only [Ya1,List.mem_append,List.mem_singleton] at hu;rcases hu with (h | h) | h
 ·exact ⟨_,h,by omega,by omega⟩
 ·exact Yq5 s u h
 ·exact Ynl _ u h
theorem Yq6 (is:Bool) (s:ByteArray) (hs:s.size<255):∀ u∈Yb7 is s,Ycm u:=by
 intro u hu;simp only [Yb7,List.mem_append,List.mem_singleton] at hu;rcases hu with (h | h) | h
 ·exact ⟨_,h,by split <;> omega,by split <;> omega⟩
 ·exact Yq5 s u h
 ·exact Ynl _ u h
theorem Yac.body_byte (e:Yac) (he:e.Fits):∀ u∈e.body,Ycm u:=by
 intro u hu;obtain ⟨_,_,_,_,hkey,hold,hnew⟩:=he;simp only [Yac.body,List.mem_append] at hu;rcases hu with (((((h | h) | h) | h) | h) | h) | h
 ·exact Ygp _ _ u h
 ·exact Ygp _ _ u h
 ·exact Ygp _ _ u h
 ·exact Ygp _ _ u h
 ·exact Yj9 _ _ (by omega) u h
 ·exact Yq6 _ _ (by omega) u h
 ·exact Yq6 _ _ (by omega) u h
theorem Yq7:∀ (bl:List Value),(∀ u∈bl,Ycm u)→∃ bi:List Int,u8s bi=bl∧∀ x∈bi,0≤x∧x<256
 | [],_=>⟨[],rfl,by simp⟩
 | u :: r,h=>by
  obtain ⟨x,rfl,h1,h2⟩:=h u (by simp);obtain ⟨bi,h3,h4⟩:=Yq7 r (fun v hv=>h v (by simp [hv]));exact ⟨x :: bi,by rw [←h3];rfl,fun y hy=>(List.mem_cons.1 hy).elim (fun e=>by subst e;exact ⟨h1,h2⟩) (h4 y)⟩
def Yel (a b:Int) (bi:List Int):List Int:=(beI a 4 ++ beI b 4) ++ bi ++ List.replicate (48 - bi.length) 0 ++ (beI a 4 ++ beI b 4)
theorem Yxl (x y:List Int):u8s (x ++ y)=u8s x ++ u8s y:=by simp [u8s]
theorem Yxm (a b:Int) (bi:List Int):u8s (Yel a b bi)=Yam a b (u8s bi):=by
 have h4:∀ n,u8s (beI n 4)=be n 4:=fun n=>Ymk n 4
 have hr:∀ n,u8s (List.replicate n 0)=List.replicate n (Value.int .u8 0):=fun n=>by simp [u8s]
 simp only [Yel,Yam,Yxl,h4,hr,Yj7]
theorem Yli (pre x post:List Int) (n:Nat) (hn:x.length=n):((pre ++ x ++ post).drop pre.length).take n=x:=by
 rw [List.append_assoc,List.drop_left,←hn,List.take_left]
theorem Yxn (a b:Int) (bi:List Int) (ha:0≤a) (ha':a<4294967296) (hb:0≤b) (hb':b<4294967296) (hl:bi.length≤48) (hr:∀ x∈bi,0≤x∧x<256):
 Sec (Yel a b bi)∧st1 (Yel a b bi)=a∧st2 (Yel a b bi)=b∧st3 (Yel a b bi)=a∧st4 (Yel a b bi)=b:=by
 have la:=Yim a 4
 have lb:=Yim b 4
 have ea:Ybk (beI a 4)=a:=Yin a 4 ha (by omega) (by simp;omega)
 have eb:Ybk (beI b 4)=b:=Yin b 4 hb (by omega) (by simp;omega)
 refine ⟨⟨?_,?_⟩,?_,?_,?_,?_⟩
 ·simp only [Yel,List.length_append,List.length_replicate,la,lb];omega
 ·intro x hx
  simp only [Yel,List.mem_append] at hx;rcases hx with (((h | h) | h) | h) | (h | h)
  ·exact Yju _ _ x h
  ·exact Yju _ _ x h
  ·exact hr x h
  ·rw [List.eq_of_mem_replicate h];omega
  ·exact Yju _ _ x h
  ·exact Yju _ _ x h
 ·unfold st1
  refine (congrArg Ybk ?_).trans ea;have:=Yli [] (beI a 4) (beI b 4 ++ bi ++ List.replicate (48 - bi.length) 0 ++ (beI a 4 ++ beI b 4)) 4 la;simpa only [Yel,List.nil_append,List.length_nil,List.drop_zero,List.append_assoc] using this
 ·unfold st2
  refine (congrArg Ybk ?_).trans eb;have:=Yli (beI a 4) (beI b 4) (bi ++ List.replicate (48 - bi.length) 0 ++ (beI a 4 ++ beI b 4)) 4 lb;rw [la] at this;simpa only [Yel,List.append_assoc] using this
 ·unfold st3
  refine (congrArg Ybk ?_).trans ea;have:=Yli (beI a 4 ++ beI b 4 ++ bi ++ List.replicate (48 - bi.length) 0) (beI a 4) (beI b 4) 4 la;have hq:(beI a 4 ++ beI b 4 ++ bi ++ List.replicate (48 - bi.length) 0).length=56:=by simp only [List.length_append,List.length_replicate,la,lb];omega
  rw [hq] at this;simpa only [Yel,List.append_assoc] using this
 ·unfold st4
  refine (congrArg Ybk ?_).trans eb;have:=Yli (beI a 4 ++ beI b 4 ++ bi ++ List.replicate (48 - bi.length) 0 ++ beI a 4) (beI b 4) [] 4 lb;have hq:(beI a 4 ++ beI b 4 ++ bi ++ List.replicate (48 - bi.length) 0 ++ beI a 4).length=60:=by simp only [List.length_append,List.length_replicate,la,lb];omega
  rw [hq] at this;simpa only [Yel,List.append_assoc,List.append_nil] using this
theorem Yq8 (a b:Int) (bl:List Value) (w:World) (ha:0≤a) (ha':a<4294967295) (hb:0≤b) (hb':b<4294967296) (hl:bl.length≤48) (h1:∀ u∈bl,Ycm u):
 Calls prog 151 #[.agg (Yam a b bl).toArray] w fun e w'=>e=.returned (.tuple #[.agg #[.int .u32 a,.int .u32 b],.slice (some ⟨w.heap.size,8,none⟩) 48 56,.bool true]) ∧
  w'.heap[w.heap.size]? = some (.cells (Yam a b bl).toArray 98)∧Below w.heap.size w w':=by
 obtain ⟨bi,rfl,hr⟩:=Yq7 bl h1
 rw [Yj7] at hl
 obtain ⟨h0,e1,e2,e3,e4⟩:=Yxn a b bi ha (by omega) hb hb' hl hr
 refine (Yxh (Yel a b bi) h0 w false false (by rw [e1,e2,e3,e4];simp) (by rw [e1,e2];simp;omega)).mono ?_ |> fun h=>by rw [←Yxm];exact h
 rintro e w' ⟨hB,hok,_⟩
 obtain ⟨h2,h3⟩:=hok ⟨rfl,rfl⟩
 rw [e1,e2] at h2
 exact ⟨h2,h3,hB⟩
def Ybz (k1 v1 k2 v2:ByteArray):List Value:=Ya1 k1 8 ++ Ya1 v1 12 ++ Ya1 k2 8 ++ Ya1 v2 12
def Yem (k v:ByteArray):Yaf:=if k=ByteArray.empty then [] else [(k,v)]
theorem Yh7 (s:ByteArray) (r:Nat) (h:s.size≤r):(Ya1 s r).length=1+r:=by
 simp only [Ya1,List.length_append,List.length_replicate,Lib.strCells_length,List.length_cons,List.length_nil];omega
theorem Yka (k1 v1 k2 v2:ByteArray) (h1:k1.size≤8) (h2:v1.size≤12) (h3:k2.size≤8) (h4:v2.size≤12):(Ybz k1 v1 k2 v2).length=44:=by
 simp only [Ybz,List.length_append,Yh7 _ _ h1,Yh7 _ _ h2,Yh7 _ _ h3,Yh7 _ _ h4]
theorem Ynm (k1 v1 k2 v2:ByteArray) (h1:k1.size≤8) (h2:v1.size≤12) (h3:k2.size≤8) (h4:v2.size≤12):∀ u∈Ybz k1 v1 k2 v2,Ycm u:=by
 intro u hu;simp only [Ybz,List.mem_append] at hu;rcases hu with ((h | h) | h) | h
 ·exact Yj9 _ _ (by omega) u h
 ·exact Yj9 _ _ (by omega) u h
 ·exact Yj9 _ _ (by omega) u h
 ·exact Yj9 _ _ (by omega) u h
theorem Yxo (a b:Int) (k1 v1 k2 v2:ByteArray) (h1:k1.size≤8) (h2:v1.size≤12) (h3:k2.size≤8) {W:World} {g:Nat} {t:TypeId} (hg:W.heap[g]? = some (.cells (Yam a b (Ybz k1 v1 k2 v2)).toArray t (0,0))):
 (∀ j u,(Ya1 k1 8)[j]? = some u→W.cell? ⟨g,8+22*0+j,none⟩=some u)∧(∀ j u,(Ya1 v1 12)[j]? = some u→W.cell? ⟨g,8+22*0+9+j,none⟩=some u) ∧
 (∀ j u,(Ya1 k2 8)[j]? = some u→W.cell? ⟨g,8+22*1+j,none⟩=some u)∧(∀ j u,(Ya1 v2 12)[j]? = some u→W.cell? ⟨g,8+22*1+9+j,none⟩=some u):=by
 have la:=Yeq a 4
 have lb:=Yeq b 4
 have e1:=Yh7 k1 8 h1
 have e2:=Yh7 v1 12 h2
 have e3:=Yh7 k2 8 h3
 have hc:∀ i u,(Yam a b (Ybz k1 v1 k2 v2))[i]? = some u→W.cell? ⟨g,i,none⟩=some u:=fun i u hu=>Yaa hg (by simpa using hu)
 refine ⟨fun j u hu=>hc _ u ?_,fun j u hu=>hc _ u ?_,fun j u hu=>hc _ u ?_,fun j u hu=>hc _ u ?_⟩
 ·have:=Ye9 (pre:=be a 4 ++ be b 4) (x:=Ya1 k1 8) (post:=Ya1 v1 12 ++ Ya1 k2 8 ++ Ya1 v2 12 ++ List.replicate (48 - (Ybz k1 v1 k2 v2).length) (Value.int .u8 0) ++ (be a 4 ++ be b 4)) hu
  rw [List.length_append,la,lb] at this;rw [show 8+22*0+j=4+4+j by omega];simpa only [Yam,Ybz,List.append_assoc] using this
 ·have:=Ye9 (pre:=be a 4 ++ be b 4 ++ Ya1 k1 8) (x:=Ya1 v1 12) (post:=Ya1 k2 8 ++ Ya1 v2 12 ++ List.replicate (48 - (Ybz k1 v1 k2 v2).length) (Value.int .u8 0) ++ (be a 4 ++ be b 4)) hu
  rw [List.length_append,List.length_append,la,lb,e1] at this;rw [show 8+22*0+9+j=4+4+(1+8)+j by omega];simpa only [Yam,Ybz,List.append_assoc] using this
 ·have:=Ye9 (pre:=be a 4 ++ be b 4 ++ Ya1 k1 8 ++ Ya1 v1 12) (x:=Ya1 k2 8) (post:=Ya1 v2 12 ++ List.replicate (48 - (Ybz k1 v1 k2 v2).length) (Value.int .u8 0) ++ (be a 4 ++ be b 4)) hu
  rw [List.length_append,List.length_append,List.length_append,la,lb,e1,e2] at this;rw [show 8+22*1+j=4+4+(1+8)+(1+12)+j by omega];simpa only [Yam,Ybz,List.append_assoc] using this
 ·have:=Ye9 (pre:=be a 4 ++ be b 4 ++ Ya1 k1 8 ++ Ya1 v1 12 ++ Ya1 k2 8) (x:=Ya1 v2 12) (post:=List.replicate (48 - (Ybz k1 v1 k2 v2).length) (Value.int .u8 0) ++ (be a 4 ++ be b 4)) hu
  rw [List.length_append,List.length_append,List.length_append,List.length_append,la,lb,e1,e2,e3] at this;rw [show 8+22*1+9+j=4+4+(1+8)+(1+12)+(1+8)+j by omega];simpa only [Yam,Ybz,List.append_assoc] using this
theorem Yi2 (w:World) (o o':Obj):((w.alloc o).alloc o').heap[w.heap.size+1]? = some o':=by
 have:=heap_alloc_new (w.alloc o) o';simpa using this
theorem Yeu {base base':Nat} {e:TypeId} {size n:Nat} {v:Value} {xs:List Value} (h:w.ownsRow base e size v n xs) (hb:base'≤base):w.ownsRow base' e size v n xs:=by
 refine ⟨h.1,?_⟩;rcases h.2 with h1 | ⟨g,cap,cur,h1,h2,h3⟩
 ·exact .inl h1
 ·exact .inr ⟨g,cap,cur,h1,by omega,h3⟩
def Ycq (k1 v1 k2 v2:ByteArray):Nat→Yaf
 | 0=>[]
 | 1=>Yem k1 v1
 | _=>Yem k1 v1 ++ Yem k2 v2
theorem Yq9 (a b:Int) (k1 v1 k2 v2:ByteArray) (w:World) (ha:0≤a) (ha':a<4294967295) (hb:0≤b) (hb':b<4294967296) (h1:k1.size≤8) (h2:v1.size≤12) (h3:k2.size≤8) (h4:v2.size≤12):
 Calls prog 219 #[.agg (Yam a b (Ybz k1 v1 k2 v2)).toArray] w fun e w'=>∃ v,e=.returned (.tuple #[.agg #[.int .u32 a,.int .u32 b],v,.bool true]) ∧
  w'.ownsRow w.heap.size 43 2 v (Ycq k1 v1 k2 v2 2).length (Yad (Ycq k1 v1 k2 v2 2))∧Below w.heap.size w w':=by
 have HUN:=Yh (fun w=>Yq8 a b (Ybz k1 v1 k2 v2) w ha ha' hb hb' (by rw [Yka k1 v1 k2 v2 h1 h2 h3 h4];omega) (Ynm k1 v1 k2 v2 h1 h2 h3 h4))
 have HAT:Hid (∀ (W:World) (g:Nat),W.heap[g]? = some (.cells (Yam a b (Ybz k1 v1 k2 v2)).toArray 98 (0,0))→_):=fun W g hg=>Yxo a b k1 v1 k2 v2 h1 h2 h3 hg
 have hsz:(Yam a b (Ybz k1 v1 k2 v2)).length=64:=Yeh a b _ (by rw [Yka k1 v1 k2 v2 h1 h2 h3 h4];omega)
 generalize Yam a b (Ybz k1 v1 k2 v2)=S at HUN HAT hsz ⊢
 have hi9:(prog.info? 98).map (·.size)=some S.length:=by rw [hsz];kernel_rfl
 have HR:Hid (∀ W:World,W.heap[w.heap.size]? = some (.cells S.toArray 98 (0,0))→W.rangeAt w.heap.size 0 S):=fun W hW j u hu=>by rw [Nat.zero_add];exact Yaa hW (by simpa using hu)
 go_enter func219,ntmps219
 go_wp2_with (first
  | (refine wpList_load_mid rfl 98 (.tmp 1) rfl w.heap.size 0 (by rfl) S _ (HR.out _ ((Below.heap_alloc _ _ _ (by simp)).trans (heap_alloc_new w _))) underlying98 rfl hi9 ?_)
  | (go_at_call 151;go_must (
   refine (HUN.out _).mono ?_;rintro e w1 ⟨rfl,hs1,hb1⟩;have HS1:=Yh hs1;have HB1:=Yh hb1;clear hb1 hs1)))
 have hz0:((w.alloc (.cells S.toArray 98)).alloc (.cells #[.int .u32 0,.int .u32 0] 168)).heap.size=w.heap.size+1+1:=by simp
 have hs1:=HS1.out
 have hb1:=HB1.out
 rw [hz0] at hs1 hb1
 have hz1:w.heap.size+1+1<w1.heap.size:=Yaj hs1
 have hr1:w1.heap[w.heap.size+1]? = some (.cells #[.int .u32 0,.int .u32 0] 168 (0,0)):=(hb1.block _ (by omega)).trans (by have:=heap_alloc_new (w.alloc (.cells S.toArray 98)) (.cells #[.int .u32 0,.int .u32 0] 168);simpa using this)
 obtain ⟨W2,hW2⟩:∃ W2,(w1.alloc (.cells #[.int .u32 a,.int .u32 b] 168)).alloc (.cells #[.slice (some ⟨w.heap.size+1+1,8,none⟩) 48 56,.bool false] 243)=W2:=⟨_,rfl⟩
 have HB2:Hid (Below w.heap.size w W2):=by
  show Below _ _ _;rw [←hW2];exact ((((((Below.refl _ w).alloc (Nat.le_refl _) _).alloc (by simp) _).trans (hb1.mono (by omega))).alloc (by omega) _)).alloc (by simp;omega) _
 have HG:Hid (W2.heap[w.heap.size+1+1]? = some (.cells S.toArray 98 (0,0))):=by show _=_;rw [←hW2,Below.heap_alloc _ _ _ (by simp;omega),Below.heap_alloc _ _ _ (by omega)];exact hs1
 have HR1:Hid (W2.heap[w.heap.size+1]? = some (.cells #[.int .u32 0,.int .u32 0] 168 (0,0))):=by show _=_;rw [←hW2,Below.heap_alloc _ _ _ (by simp;omega),Below.heap_alloc _ _ _ (by omega)];exact hr1
 have HP5:Hid (W2.heap[w1.heap.size]? = some (.cells #[.int .u32 a,.int .u32 b] 168 (0,0))):=by show _=_;rw [←hW2,Below.heap_alloc _ _ _ (by simp)];exact heap_alloc_new w1 _
 have HRB:Hid (Ydm W2 (w1.heap.size+1) (some ⟨w.heap.size+1+1,8,none⟩) 48 56 false):=by
  show Ydm _ _ _ _ _ _;rw [←hW2];have:=heap_alloc_new (w1.alloc (.cells #[.int .u32 a,.int .u32 b] 168)) (.cells #[.slice (some ⟨w.heap.size+1+1,8,none⟩) 48 56,.bool false] 243);simpa [Ydm] using this
 have hz2:W2.heap.size=w1.heap.size+2:=by rw [←hW2];simp
 rw [hW2]
 generalize hgb:w.heap.size+1+1=gb at *
 generalize w1.heap.size=p5 at *
 clear hW2 hs1 hb1 hr1 HS1 HB1 HUN hz0 HR
 go_loopw [9,22] (fun v i wr=>∃ k:Nat,k≤2∧i=.int .i64 k∧wr.ownsRow (p5+1+1) 43 2 v (Ycq k1 v1 k2 v2 k).length (Yad (Ycq k1 v1 k2 v2 k))∧Ydm wr (p5+1) (some ⟨gb,8+22*k,none⟩) (48 - 22*k) (56 - 22*k) false∧(∀ q,q<p5+1→wr.heap[q]? = W2.heap[q]?)∧Below 0 W2 wr) (fun _ i _=>2 - (intOf i).toNat)
 case atStart=>exact ⟨0,by omega,rfl,World.ownsRow_nil _ _ _ _,HRB.out,fun _ _=>rfl,Below.refl _ _⟩
 case round=>
  obtain ⟨k,hk,rfl,hown,hrd,hfr,hbw⟩:=hrel;have hgr:wr.heap[gb]? = some (.cells S.toArray 98 (0,0)):=(hfr gb (by omega)).trans HG.out;by_cases hlt:k<2
  ·obtain ⟨kk,vv,hks,hvs,hKT,hVT,hup⟩:∃ kk vv:ByteArray,kk.size≤8∧vv.size≤12∧(∀ (W:World),W.heap[gb]? = some (.cells S.toArray 98 (0,0))→∀ j u,(Ya1 kk 8)[j]? = some u→W.cell? ⟨gb,8+22*k+j,none⟩=some u)∧(∀ (W:World),W.heap[gb]? = some (.cells S.toArray 98 (0,0))→∀ j u,(Ya1 vv 12)[j]? = some u→W.cell? ⟨gb,8+22*k+9+j,none⟩=some u)∧Ycq k1 v1 k2 v2 (k+1)=Ycq k1 v1 k2 v2 k ++ Yem kk vv:=by
    match k,hlt with
    | 0,_=>exact ⟨k1,v1,h1,h2,fun W h=>(HAT.out W gb h).1,fun W h=>(HAT.out W gb h).2.1,rfl⟩
    | 1,_=>exact ⟨k2,v2,h3,h4,fun W h=>(HAT.out W gb h).2.2.1,fun W h=>(HAT.out W gb h).2.2.2,rfl⟩
   have hlt':(k:Int)<2:=by omega
   have tok1:True:=trivial;have tok2:True:=trivial;have KK:=Ylg (p5+1) gb (8+22*k) (48 - 22*k) (56 - 22*k) 8 false wr hrd (by omega) (by omega) (by omega) (by omega) (by omega) (by omega) kk hks (hKT wr hgr);have HUP:=Yh hup;have HVT:=Yh hVT;have HFR:=Yh hfr;have HBW:=Yh hbw;have HGR:=Yh hgr;have HOW:=Yh hown;have hlr:p5+1<wr.heap.size:=Yaj hrd;have hup2:(Ycq k1 v1 k2 v2 k).length≤2:=by
    have h01:∀ x y,(Yem x y).length≤1:=fun x y=>by unfold Yem;split <;> simp
    match k with
    | 0=>simp [Ycq]
    | 1=>have:=h01 k1 v1;simp [Ycq];omega
    | n+2=>have:=h01 k1 v1;have:=h01 k2 v2;simp [Ycq];omega
   generalize hU1:Ycq k1 v1 k2 v2 (k+1)=U' at HUP;have HU1:=Yh hU1;clear hU1;generalize Ycq k1 v1 k2 v2 k=U at HUP HOW hup2;clear hup hVT hKT hfr hbw hgr hown hrd;by_cases hke:kk=ByteArray.empty
   ·have HU:Hid (U'=U):=by show _=_;rw [HUP.out,Yem,if_pos hke];simp
    subst hke;go_wp2_with (first
     | (go_at_call 197;have _t:=tok1;go_must (
      refine KK.mono ?_;rintro e w3 ⟨rfl,hrd3,ho3,hz3,hb3⟩;have hg3:=(ho3 gb (by omega)).trans HGR.out;have KV:=Ylg (p5+1) gb (8+22*k+9) (48 - 22*k - 9) (56 - 22*k - 9) 12 false w3 hrd3 (by omega) (by omega) (by omega) (by omega) (by omega) (by omega) vv hvs (HVT.out w3 hg3);have HF3:=Yh ho3;have HZ3:=Yh hz3;have HB3:=Yh hb3;clear hrd3 ho3 hz3 hb3 hg3 tok1 KK))
     | (go_at_call 197;have _t:=tok2;go_must (
      refine KV.mono ?_;rintro e w4 ⟨rfl,hrd4,ho4,hz4,hb4⟩;have HRD4:=Yh hrd4;have HF4:Hid (∀ q,q≠p5+1→w4.heap[q]? = wr.heap[q]?):=fun q hq=>(ho4 q hq).trans (HF3.out q hq)
      have HZ4:Hid (w4.heap.size=wr.heap.size):=hz4.trans HZ3.out;have HB4:Hid (Below 0 wr w4):=HB3.out.trans hb4;clear hrd4 ho4 hz4 hb4 tok2 KV)))
    have hz4:=HZ4.out;have hb5:Below w4.heap.size w4 (w4.alloc (.cells #[.string ByteArray.empty,.string vv] 43)):=(Below.refl _ _).alloc (Nat.le_refl _) _;refine ⟨⟨k+1,by omega,by simp,?_,?_,fun q hq=>?_,?_⟩,by simp [intOf];omega⟩
    ·rw [HU1.out,HU.out];exact (Yda HOW.out (fun g hg=>HF4.out g (by have:=(HOW.out.lt g hg).1;omega))).alloc _
    ·have:=(hb5.block (p5+1) (by omega)).trans HRD4.out
     have e1:8+22*k+9+(1+12)=8+22*(k+1):=by omega
     have e2:48 - 22*k - 9 - (1+12)=48 - 22*(k+1):=by omega
     have e3:56 - 22*k - 9 - (1+12)=56 - 22*(k+1):=by omega
     rw [e1,e2,e3] at this;exact this
    ·rw [hb5.block q (by omega),HF4.out q (by omega)];exact HFR.out q hq
    ·exact HBW.out.trans (HB4.out.trans (hb5.mono (Nat.zero_le _)))
   ·have HU:Hid (U'=U ++ [(kk,vv)]):=by show _=_;rw [HUP.out,Yem,if_neg hke]
    have hke':kk.toList.isEmpty=false:=by
     cases hh:kk.toList with
     | nil=>exact absurd (toList_inj (hh.trans (by rw [Lib.toList_data];rfl))) hke
     | cons _ _=>rfl
    go_wp2_with (first
     | (go_at_call 197;have _t:=tok1;go_must (
      refine KK.mono ?_;rintro e w3 ⟨rfl,hrd3,ho3,hz3,hb3⟩;have hg3:=(ho3 gb (by omega)).trans HGR.out;have KV:=Ylg (p5+1) gb (8+22*k+9) (48 - 22*k - 9) (56 - 22*k - 9) 12 false w3 hrd3 (by omega) (by omega) (by omega) (by omega) (by omega) (by omega) vv hvs (HVT.out w3 hg3);have HF3:=Yh ho3;have HZ3:=Yh hz3;have HB3:=Yh hb3;clear hrd3 ho3 hz3 hb3 hg3 tok1 KK))
     | (go_at_call 197;have _t:=tok2;go_must (
      refine KV.mono ?_;rintro e w4 ⟨rfl,hrd4,ho4,hz4,hb4⟩;have HRD4:=Yh hrd4;have HF4:Hid (∀ q,q≠p5+1→w4.heap[q]? = wr.heap[q]?):=fun q hq=>(ho4 q hq).trans (HF3.out q hq)
      have HZ4:Hid (w4.heap.size=wr.heap.size):=hz4.trans HZ3.out;have HB4:Hid (Below 0 wr w4):=HB3.out.trans hb4;clear hrd4 ho4 hz4 hb4 tok2 KV))
     | (at_builtin;go_must (
      refine Yg9 rfl _ _ rfl (p5+1+1) u9 U rfl ?hown (w4.heap.size+1) kk vv rfl ?hnew (by omega) ?hbase ?_
      case hown=>exact ((Yda HOW.out (fun g hg=>HF4.out g (by have:=(HOW.out.lt g hg).1;omega))).alloc _).alloc _
      case hnew=>exact Yi2 w4 _ _
      case hbase=>have:=HZ4.out;simp;omega
      intro v5 w5 hown5 hb5;have HB5:Hid (Below (p5+1+1) w4 w5):=(((Below.refl _ _).alloc (by have:=HZ4.out;omega) _).alloc (by have:=HZ4.out;simp;omega) _).trans hb5;clear hb5)))
    have hz4:=HZ4.out;refine ⟨⟨k+1,by omega,by simp,?_,?_,fun q hq=>?_,?_⟩,by simp [intOf];omega⟩
    ·rw [HU1.out,HU.out];exact hown5
    ·have:=(HB5.out.block (p5+1) (by omega)).trans HRD4.out
     have e1:8+22*k+9+(1+12)=8+22*(k+1):=by omega
     have e2:48 - 22*k - 9 - (1+12)=48 - 22*(k+1):=by omega
     have e3:56 - 22*k - 9 - (1+12)=56 - 22*(k+1):=by omega
     rw [e1,e2,e3] at this;exact this
    ·rw [HB5.out.block q (by omega),HF4.out q (by omega)];exact HFR.out q hq
    ·exact HBW.out.trans (HB4.out.trans (HB5.out.mono (Nat.zero_le _)))
  ·obtain rfl:k=2:=by omega
   have q1:=(hfr (w.heap.size+1) (by omega)).trans HR1.out;have q5:=(hfr p5 (by omega)).trans HP5.out;have c1:=Yaa (j:=0) q1 rfl;have c2:=Yaa (j:=1) q1 rfl;have f1:=Yah 0 q1;have f2:=Yah 1 q1;have c5:=Yaa (j:=0) q5 rfl;have c6:=Yaa (j:=1) q5 rfl;have c7:wr.cell? ⟨p5+1,1,none⟩=some (.bool false):=Yaa (j:=1) hrd rfl;have HQ1:=Yh q1;have HOW:=Yh hown;have HBF:Hid (Below w.heap.size w wr):=⟨hbw.os.trans HB2.out.os,hbw.tape.trans HB2.out.tape,hbw.output.trans HB2.out.output,by have:=hbw.size;have:=HB2.out.size;omega,fun q hq=>(hfr q (by omega)).trans (HB2.out.block q hq)⟩;clear q1 q5 hown hbw hfr hrd;go_wp2;go_region
   all_goals
    go_wp2;have k3:=Yak _ (w.heap.size+1) 1 (.int .u32 b) _ 168 (Yak wr (w.heap.size+1) 0 (.int .u32 a) _ 168 HQ1.out);have m0:=Yaa (j:=0) k3 rfl;have m1:=Yaa (j:=1) k3 rfl;refine bodyPost_ret (v:=.tuple #[.agg #[.int .u32 a,.int .u32 b],u9,.bool true]) ?_ rfl ⟨u9,rfl,?_,?_⟩
    ·simp [results,Tryz.results219,go_sem,m0,m1]
    ·refine Yeu (Yda (w:=wr) HOW.out (fun g hg=>?_)) (show w.heap.size≤p5+1+1 by omega)
     have:=(HOW.out.lt g hg).1;exact (Below.heap_setCell _ _ _ _ (show g≠w.heap.size+1 by omega)).trans (Below.heap_setCell _ _ _ _ (show g≠w.heap.size+1 by omega))
    ·exact ((HBF.out.setCell (p:=⟨w.heap.size+1,0,none⟩) (by simp) _).setCell (p:=⟨w.heap.size+1,1,none⟩) (by simp) _).drew
end Go.Proofs.YtihbngfbcnojcaaGreat
