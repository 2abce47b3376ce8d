import Derived.Test.YtihbngfbcnojcaaGreatActC04
set_option maxRecDepth 100000
set_option maxHeartbeats 8000000
namespace Go.Proofs.YtihbngfbcnojcaaGreat
open Go.RowKit Tryz
variable {l:List (TxV×TxS)} {log:List Yac} {cap g i mb:Nat} {vp':Value} {w w' w1:World} {n n':Ya0} {s:Ya4} {x:Yac} {other pairs pairs':Yaf}
def Ynd (w w':World) (mb b o:Nat) (n:Ya0) (s:Ya4) (cur:Array Value) (log:List Yac) (x:Yac):Prop:=
 ∃ vl',w'.ownsRow 0 152 9 vl' (log ++ [x]).length (Ybf (log ++ [x]))∧w'.heap[mb]? = some (.cells (Yc6 n { s with vl:=vl' }) 119 (0,0))∧w'.heap[b]? = some (.cells (cur.setIfInBounds (o+1) (.int .i64 ((log.length:Int)+1))) 200 (0,0)) ∧
  (∀ k,k<w.heap.size→k≠mb→k≠b→s.vl.ownBlock≠some k→w'.heap[k]? = w.heap[k]?)∧(∀ g,vl'.ownBlock=some g→s.vl.ownBlock=some g∨w.heap.size≤g)∧Below 0 w w'
theorem Yhb (mb b o:Nat) (n:Ya0) (s:Ya4) (cur:Array Value) (log:List Yac) (xid last:Int) (x:Yac) (w:World) (hm:w.heap[mb]? = some (.cells (Yc6 n s) 119 (0,0))) (hb:w.heap[b]? = some (.cells cur 200 (0,0))) (hc0:cur[o]? = some (.int .i64 xid)) (hc1:cur[o+1]? = some (.int .i64 last))
 (hown:w.ownsRow 0 152 9 s.vl log.length (Ybf log)) (hlen:log.length≤10000) (hmb:mb≠b) (hvm:s.vl.ownBlock≠some mb) (hvb:s.vl.ownBlock≠some b):
 Calls prog 137 #[.pointer (some ⟨mb,0,none⟩),.pointer (some ⟨b,o,none⟩),.agg x.cells] w fun e w'=>e=.returned (.int .i64 ((log.length:Int)+1))∧Ynd w w' mb b o n s cur log { x with tx:=xid,prev:=last }:=by
 obtain ⟨kind,tx,prev,next,key,oldIs,old,newIs,new⟩:=x
 simp only [Yac.cells]
 obtain ⟨vp,vo,vt,vl⟩:=s
 obtain ⟨p,cap,hvl,hmax⟩:=Ya6 hown
 simp only at hvl
 subst hvl
 clear hmax
 have hmw:mb<w.heap.size:=Yaj hm
 have hbw:b<w.heap.size:=Yaj hb
 have c8:w.cell? ⟨mb,8,none⟩=some (.slice p log.length cap):=Yaa hm rfl
 have c0:w.cell? ⟨b,o,none⟩=some (.int .i64 xid):=Yaa hb hc0
 have c1:w.cell? ⟨b,o+1,none⟩=some (.int .i64 last):=Yaa hb hc1
 have f8:=Yah 8 hm
 have f1:=Yah (o+1) hb
 have HM:=Yh hm
 have HBk:Hid (w.heap[b]? = some (.cells cur 200 (0,0))∧cur[o]? = some (.int .i64 xid)∧cur[o+1]? = some (.int .i64 last)):=⟨hb,hc0,hc1⟩
 have HO:=Yh hown
 clear hm hb hc0 hc1 hown
 go_enter func137,ntmps137
 go_wp2
 obtain ⟨W,hW⟩:∃ W,W=w.alloc (.cells #[.int .i64 kind,.int .i64 xid,.int .i64 last,.int .i64 next,.string key,.bool oldIs,.string old,.bool newIs,.string new] 152):=⟨_,rfl⟩
 rw [←hW]
 have hBW:Below w.heap.size w W:=by rw [hW];exact (Below.refl _ _).alloc (Nat.le_refl _) _
 have hNW:W.heap[w.heap.size]? = some (.cells #[.int .i64 kind,.int .i64 xid,.int .i64 last,.int .i64 next,.string key,.bool oldIs,.string old,.bool newIs,.string new] 152 (0,0)):=by rw [hW];exact heap_alloc_new w _
 have hzW:W.heap.size=w.heap.size+1:=by rw [hW];simp
 have d8:W.cell? ⟨mb,8,none⟩=some (.slice p log.length cap):=(hBW.cell hmw).trans c8
 have m0:W.cell? ⟨w.heap.size,0,none⟩=some (.int .i64 kind):=Yaa hNW rfl
 have m1:W.cell? ⟨w.heap.size,1,none⟩=some (.int .i64 xid):=Yaa hNW rfl
 have m2:W.cell? ⟨w.heap.size,2,none⟩=some (.int .i64 last):=Yaa hNW rfl
 have m3:W.cell? ⟨w.heap.size,3,none⟩=some (.int .i64 next):=Yaa hNW rfl
 have m4:W.cell? ⟨w.heap.size,4,none⟩=some (.string key):=Yaa hNW rfl
 have m5:W.cell? ⟨w.heap.size,5,none⟩=some (.bool oldIs):=Yaa hNW rfl
 have m6:W.cell? ⟨w.heap.size,6,none⟩=some (.string old):=Yaa hNW rfl
 have m7:W.cell? ⟨w.heap.size,7,none⟩=some (.bool newIs):=Yaa hNW rfl
 have m8:W.cell? ⟨w.heap.size,8,none⟩=some (.string new):=Yaa hNW rfl
 have HoW:Hid (W.ownsRow 0 152 9 (.slice p log.length cap) log.length (Ybf log)):=Ybe HO.out hBW (fun g hg=>(HO.out.lt g hg).2)
 have HBW:=Yh hBW
 have hmW:mb<W.heap.size:=by omega
 have hbW:b<W.heap.size:=by omega
 have hNw:w.heap.size<W.heap.size:=by omega
 obtain ⟨i0,hi0,hx0,hx1,hx2⟩:=info_parts Yk0
 clear hW hBW hNW c8 c0 c1 f8 f1
 go_region_law (first
  | (
   refine step_append_lies _ ?hgd (.tmp 21) (.tmp 23) 69 ?hop 0 152 i0 _ 9 96 underlying69 hi0 hx0 hx1 hx2 rfl (by omega) (.slice p log.length cap) log.length (Ybf log) ?hs (World.ownsRow.alloc (w:=W.drew) HoW.out _) ⟨W.heap.size,0,none⟩ 1 1 [.int .i64 kind,.int .i64 xid,.int .i64 last,.int .i64 next,.string key,.bool oldIs,.string old,.bool newIs,.string new] ?hx rfl ?hnews ?h1 (by omega) (by unfold maxLen;omega) (by omega) (by omega) (W.heap.size+1) ?hH ?_
   case hgd=>rfl
   case hop=>rfl
   case hs=>go_simp
   case hx=>go_simp
   case hnews=>intro j u hu;rw [Ydg];exact Yaa (heap_alloc_new W.drew _) (by simpa using hu)
   case h1=>intro u hu;simp at hu;rcases hu with rfl | rfl | rfl | rfl | rfl | rfl | rfl | rfl | rfl <;> rfl
   case hH=>simp
   intro g2 cc w2 ho2 hg2 hat hlt2;have hk2:∀ k,k<w.heap.size→(Value.slice p log.length cap).ownBlock≠some k→w2.heap[k]? = w.heap[k]?:=fun k h1 h2=>
    (hg2.block k (by simp;omega) (fun e=>h2 e.symm)).trans ((Below.heap_alloc W _ k (by omega)).trans (HBW.out.block k h1))
   have hm2:=(hk2 mb hmw hvm).trans HM.out;have hb2:=(hk2 b hbw hvb).trans HBk.out.1;have e8:w2.cell? ⟨mb,8,none⟩=some (.slice p log.length cap):=Yaa hm2 rfl;have k8:=Yah 8 hm2;have e1:w2.cell? ⟨b,o+1,none⟩=some (.int .i64 last):=Yaa hb2 HBk.out.2.2;have k1:=Yah (o+1) hb2;have HFIN:Hid (Ynd w ((w2.setCell ⟨mb,8,none⟩ (.slice (some ⟨g2,0,none⟩) (log.length+1) cc)).setCell ⟨b,o+1,none⟩ (.int .i64 ((log.length:Int)+1))) mb b o n ⟨vp,vo,vt,.slice p log.length cap⟩ cur log ⟨kind,xid,last,next,key,oldIs,old,newIs,new⟩):=by
    have hg2m:g2≠mb:=by
     rcases hat with hat | hat
     ·exact fun e=>hvm (by rw [hat,e])
     ·omega
    have hg2b:g2≠b:=by
     rcases hat with hat | hat
     ·exact fun e=>hvb (by rw [hat,e])
     ·omega
    refine ⟨.slice (some ⟨g2,0,none⟩) (log.length+1) cc,?_,?_,?_,fun k h1 h2 h3 h4=>?_,fun q hq=>?_,?_⟩
    ·have hc:Ybf (log ++ [⟨kind,xid,last,next,key,oldIs,old,newIs,new⟩])=Ybf log ++ [.int .i64 kind,.int .i64 xid,.int .i64 last,.int .i64 next,.string key,.bool oldIs,.string old,.bool newIs,.string new]:=by simp [Ybf,Yac.cells]
     rw [hc,List.length_append];refine Yas ho2 (fun q hq=>?_);simp [Value.ownBlock] at hq;subst hq;exact (Below.heap_setCell _ _ _ _ hg2b).trans (Below.heap_setCell _ _ _ _ hg2m)
    ·exact (Below.heap_setCell _ _ _ _ hmb).trans ((Yak _ _ 8 _ _ _ hm2).trans rfl)
    ·exact Yak _ _ _ _ _ _ ((Below.heap_setCell _ _ _ _ (Ne.symm hmb)).trans hb2)
    ·exact (Below.heap_setCell _ _ _ _ h3).trans ((Below.heap_setCell _ _ _ _ h2).trans (hk2 k h1 h4))
    ·simp [Value.ownBlock] at hq
     subst hq;rcases hat with hat | hat
     ·exact .inl hat
     ·exact .inr (by omega)
    ·have hs:=hg2.size
     have h1:=HBW.out.size;have:Below 0 w w2:=⟨hg2.os.trans HBW.out.os,hg2.tape.trans HBW.out.tape,hg2.output.trans HBW.out.output,by simp at hs;omega,fun k hk=>by omega⟩;exact (this.setCell (p:=⟨mb,8,none⟩) (by simp) _).setCell (p:=⟨b,o+1,none⟩) (by simp) _
   clear ho2 hg2 hat hlt2 hk2 hm2 hb2))
 all_goals
  go_wp2;go_ret;exact ⟨rfl,HFIN.out⟩
theorem Ya9.trans {w2:World} {s1 s2:Ya4} {l1 l2:List (TxV×TxS)} (h:Ya9 w w1 mb s s1 l l1) (k:Ya9 w1 w2 mb s1 s2 l1 l2):Ya9 w w2 mb s s2 l l2:=by
 have hs:=h.below.size;refine ⟨fun q hq hno=>?_,fun a q ha=>?_,h.below.trans k.below,fun q hq=>?_⟩
 ·rw [k.kept q (by omega) (fun a e=>?_),h.kept q hq hno]
  rcases h.blks a q e with ⟨b,hb⟩ | h1
  ·exact hno b hb
  ·omega
 ·rcases k.blks a q ha with ⟨b,hb⟩ | h1
  ·exact h.blks b q hb
  ·exact .inr (by omega)
 ·rcases k.imm q hq with h1 | h1
  ·exact h.imm q h1
  ·exact .inr (by omega)
theorem Ya9.of_below (_h:Yaq w mb n s l pairs other log) (hb:Below w.heap.size w w1):Ya9 w w1 mb s s l l:=
 ⟨fun q hq _=>hb.block q hq,fun a _ ha=>.inl ⟨a,ha⟩,hb.mono (Nat.zero_le _),fun _ h=>.inl h⟩
theorem Yaq.openBlock (h:Yaq w mb n s l pairs other log) (hl:0<l.length):
 ∃ g cap cur,s.vt=.slice (some ⟨g,0,none⟩) l.length cap∧w.heap[g]? = some (.cells cur 200 (0,0))∧(∀ (j:Nat) u,(Ya2 l)[j]? = some u→cur[j]? = some u)∧Yai mb s l .opn=some g∧g≠mb:=by
 rcases h.opn.2 with ⟨_,h0⟩ | ⟨g,cap,cur,h1,h2,h3,h4,h5,h6,h7⟩
 ·omega
 ·have hb:Yai mb s l .opn=some g:=by simp [Yai,h1,Value.ownBlock]
  refine ⟨g,cap,cur,h1,h3,fun j u hu=>?_,hb,fun e=>?_⟩
  ·rw [←h7,List.getElem?_take] at hu
   split at hu
   ·simpa using hu
   ·cases hu
  ·have:=h.apart .opn .mod mb (by rw [hb,e]) rfl
   cases this
theorem Yqi {vt:Value} {cur:Array Value} {j:Nat} {p p':TxV×TxS} {u:Value} (hvt:vt=.slice (some ⟨g,0,none⟩) l.length cap) (hop:w.ownsRow 0 200 5 vt l.length (Ya2 l)) (hg:w.heap[g]? = some (.cells cur 200 (0,0)))
 (hg':w'.heap[g]? = some (.cells (cur.setIfInBounds (i*5+j) u) 200 (0,0))) (hi:l[i]? = some p) (hs:(Ye5 p).set j u=Ye5 p') (hj:j<5):w'.ownsRow 0 200 5 vt (l.set i p').length (Ya2 (l.set i p')):=by
 subst hvt
 have h1:=Ydx hop (i*5+j) u
 rw [Ylb l i p p' j u hi hs hj] at h1
 rw [List.length_set]
 refine Yas h1 (fun q hq=>?_)
 simp [Value.ownBlock] at hq
 subst hq
 rw [hg',Yak w g _ u cur _ hg]
theorem Yqj {cur:Array Value} {p:TxV×TxS} {ws:Ycl} (h:Yaq w mb n s l pairs other log) (hi:l[i]? = some p) (hvt:s.vt=.slice (some ⟨g,0,none⟩) l.length cap) (hg:w.heap[g]? = some (.cells cur 200 (0,0)))
 (hw:Ylc w w' g (i*5) cur 200 p.2.vw ws) (hwl:ws.length≤100000):
 ∃ vw',Yaq w' mb n s (l.set i ({ p.1 with writes:=ws },{ p.2 with vw:=vw' })) pairs other log∧Ya9 w w' mb s s l (l.set i ({ p.1 with writes:=ws },{ p.2 with vw:=vw' })):=by
 obtain ⟨vw',ho,hb',hk,hat,hbl⟩:=hw
 have hil:i<l.length:=(List.getElem?_eq_some_iff.1 hi).1
 have hog:Yai mb s l .opn=some g:=by simp [Yai,hvt,Value.ownBlock]
 have hwr:∀ k,p.2.vw.ownBlock=some k→Yai mb s l (.wr i)=some k:=fun k hk=>by simp [Yai,hi,hk]
 obtain ⟨r1,r2,r3⟩:=h.rest1 (w':=w') (.wr i) (fun k h1 h2 h3=>hk k h1 (fun e=>h2 (by rw [e];exact hog)) (fun e=>h3 (hwr k e)))
 have tw:Yc9 w p:=h.txs p (List.mem_of_getElem? hi)
 obtain ⟨b1,b2,b3⟩:=Ync h i p ({ p.1 with writes:=ws },{ p.2 with vw:=vw' }) hi (fun k hk=>.inl hk)
  (fun k hk=>by
   rcases hat k hk with h1 | h1
   ·exact .inl h1
   ·exact .inr ⟨h1,fun e=>by have:=(tw.1.lt _ e).2;omega,fun e=>by have:=(tw.2.2.1.lt _ e).2;omega⟩)
  (fun k hk=>.inl hk)
 refine ⟨vw',⟨?_,?_,?_,r2,r3,?_,b1,b2⟩,⟨?_,b3,hbl,fun _ h=>.inl h⟩⟩
 ·exact (r1 .mod mb (by simp) (by simp) rfl).trans h.cell
 ·exact Yqi hvt h.opn hg hb' hi rfl (by omega)
 ·intro q hq
  obtain ⟨j,hj⟩:=List.getElem?_of_mem hq;by_cases hji:j=i
  ·subst hji
   rw [List.getElem?_set_self hil] at hj;simp at hj;subst hj;exact ⟨Yas tw.1 (fun k hk=>r1 (.rd j) k (by simp) (by simp) (by simp [Yai,hi,hk])),ho,Yas tw.2.2.1 (fun k hk=>r1 (.up j) k (by simp) (by simp) (by simp [Yai,hi,hk])),tw.2.2.2.1,hwl,tw.2.2.2.2.2⟩
  ·rw [List.getElem?_set_ne (fun e=>hji e.symm)] at hj
   refine (h.txs q (List.mem_of_getElem? hj)).off fun k hk=>?_
   rcases hk with hk | hk | hk
   ·exact r1 (.rd j) k (by simp) (by simp) (by simp [Yai,hj,hk])
   ·exact r1 (.wr j) k (by simp) (by simp [hji]) (by simp [Yai,hj,hk])
   ·exact r1 (.up j) k (by simp) (by simp) (by simp [Yai,hj,hk])
 ·exact Yas h.lg (fun k hk=>r1 .lg k (by simp) (by simp) hk)
 ·intro k hk' hno
  exact hk k hk' (fun e=>hno .opn (by rw [e];exact hog)) (fun e=>hno (.wr i) (hwr k e))
theorem Yqk (h:Yaq w mb n s l pairs other log) (hm:w'.heap[mb]? = some (.cells (Yc6 n' s) 119 (0,0))) (hk:∀ k,k≠mb→w'.heap[k]? = w.heap[k]?) (hb:Below 0 w w'):
 Yaq w' mb n' s l pairs other log∧Ya9 w w' mb s s l l:=by
 have key:∀ a k,a≠.mod→Yai mb s l a=some k→w'.heap[k]? = w.heap[k]?:=fun a k ha hb=>hk k (fun e=>ha (h.apart a .mod k hb (by simp [Yai,e])))
 refine ⟨⟨hm,Yas h.opn (fun k hb=>key .opn k (by simp) hb),fun p hp=>?_,Yas h.prs (fun k hb=>hk k (fun e=>(h.imm .mod mb rfl).1 (by rw [←e];exact hb))),Yas h.oth (fun k hb=>hk k (fun e=>(h.imm .mod mb rfl).2 (by rw [←e];exact hb))),Yas h.lg (fun k hb=>key .lg k (by simp) hb),h.apart,h.imm⟩,⟨fun k _ hno=>hk k (fun e=>hno .mod (by simp [Yai,e])),fun a k ha=>.inl ⟨a,ha⟩,hb,fun _ h=>.inl h⟩⟩
 obtain ⟨i,hi⟩:=List.getElem?_of_mem hp
 refine (h.txs p hp).off fun k hb=>?_
 rcases hb with hb | hb | hb
 ·exact key (.rd i) k (by simp) (by simp [Yai,hi,hb])
 ·exact key (.wr i) k (by simp) (by simp [Yai,hi,hb])
 ·exact key (.up i) k (by simp) (by simp [Yai,hi,hb])
theorem Ywa {p p':TxV×TxS} (hi:l[i]? = some p) (hp:p'.2=p.2) (a:Ybs):Yai mb s (l.set i p') a=Yai mb s l a:=by
 have hil:i<l.length:=(List.getElem?_eq_some_iff.1 hi).1;have key:∀ (j:Nat) (f:TxS→Option Nat),(l.set i p')[j]?.bind (fun q=>f q.2)=l[j]?.bind (fun q=>f q.2):=by
  intro j f;by_cases hj:j=i
  ·subst hj
   rw [List.getElem?_set_self hil,hi];simp [hp]
  ·rw [List.getElem?_set_ne (fun e=>hj e.symm)]
 cases a using Ybs.elim with
 | mod=>rfl
 | opn=>rfl
 | lg=>rfl
 | rd j=>exact key j (fun q=>q.vr.ownBlock)
 | wr j=>exact key j (fun q=>q.vw.ownBlock)
 | up j=>exact key j (fun q=>q.vu.ownBlock)
theorem Yql (h:Yaq w mb n s l pairs other log) (vl':Value) (hat:∀ g,vl'.ownBlock=some g→s.vl.ownBlock=some g∨w.heap.size≤g):
 (∀ a b k,Yai mb { s with vl:=vl' } l a=some k→Yai mb { s with vl:=vl' } l b=some k→a=b)∧(∀ a k,Yai mb { s with vl:=vl' } l a=some k→s.vp.ownBlock≠some k∧s.vo.ownBlock≠some k) ∧
  (∀ a k,Yai mb { s with vl:=vl' } l a=some k→(∃ b,Yai mb s l b=some k)∨w.heap.size≤k):=by
 have old:∀ a k,a≠.lg→Yai mb { s with vl:=vl' } l a=some k→Yai mb s l a=some k:=by
  intro a k ha hk
  cases a using Ybs.elim <;> first | exact hk | exact absurd rfl ha
 have new:∀ k,Yai mb { s with vl:=vl' } l .lg=some k→Yai mb s l .lg=some k∨w.heap.size≤k:=fun k hk=>hat k hk
 refine ⟨fun a b k ha hb=>?_,fun a k ha=>?_,fun a k ha=>?_⟩
 ·by_cases h1:a=.lg
  ·by_cases h2:b=.lg
   ·rw [h1,h2]
   ·subst h1
    have hb':=old b k h2 hb;rcases new k ha with h3 | h3
    ·exact h.apart _ _ k h3 hb'
    ·have:=h.lt b k hb';omega
  ·have ha':=old a k h1 ha
   by_cases h2:b=.lg
   ·subst h2
    rcases new k hb with h3 | h3
    ·exact h.apart _ _ k ha' h3
    ·have:=h.lt a k ha';omega
   ·exact h.apart _ _ k ha' (old b k h2 hb)
 ·by_cases h1:a=.lg
  ·subst h1
   rcases new k ha with h3 | h3
   ·exact h.imm _ k h3
   ·exact ⟨fun e=>by have:=(h.prs.lt k e).2;omega,fun e=>by have:=(h.oth.lt k e).2;omega⟩
  ·exact h.imm a k (old a k h1 ha)
 ·by_cases h1:a=.lg
  ·subst h1
   rcases new k ha with h3 | h3
   ·exact .inl ⟨_,h3⟩
   ·exact .inr h3
  ·exact .inl ⟨a,old a k h1 ha⟩
theorem Yhc {cur:Array Value} {p:TxV×TxS} (h:Yaq w mb n s l pairs other log) (hi:l[i]? = some p) (hvt:s.vt=.slice (some ⟨g,0,none⟩) l.length cap) (hg:w.heap[g]? = some (.cells cur 200 (0,0)))
 (hw:Ynd w w' mb g (i*5) n s cur log x):
 ∃ vl',Yaq w' mb n { s with vl:=vl' } (l.set i ({ p.1 with last:=(log.length:Int)+1 },p.2)) pairs other (log ++ [x])∧Ya9 w w' mb s { s with vl:=vl' } l (l.set i ({ p.1 with last:=(log.length:Int)+1 },p.2)):=by
 obtain ⟨vl',ho,hm,hb',hk,hat,hbl⟩:=hw
 have hil:i<l.length:=(List.getElem?_eq_some_iff.1 hi).1
 have hog:Yai mb s l .opn=some g:=by simp [Yai,hvt,Value.ownBlock]
 obtain ⟨b1,b2,b3⟩:=Yql h vl' hat
 have key:∀ a k,a≠.mod→a≠.opn→a≠.lg→Yai mb s l a=some k→w'.heap[k]? = w.heap[k]?:=fun a k h1 h2 h3 hb=>
  hk k (h.lt a k hb) (fun e=>h1 (h.apart a .mod k hb (by simp [Yai,e]))) (fun e=>h2 (h.apart a .opn k hb (by rw [e];exact hog))) (fun e=>h3 (h.apart a .lg k hb e))
 have hsame:∀ (s':Ya4) a,Yai mb s' (l.set i ({ p.1 with last:=(log.length:Int)+1 },p.2)) a=Yai mb s' l a:=fun s' a=>Ywa (p':=({ p.1 with last:=(log.length:Int)+1 },p.2)) hi rfl a
 have off:∀ q∈l,Yc9 w' q:=fun q hq=>by
  obtain ⟨j,hj⟩:=List.getElem?_of_mem hq;refine (h.txs q hq).off fun k hk=>?_
  rcases hk with hk | hk | hk
  ·exact key (.rd j) k (by simp) (by simp) (by simp) (by simp [Yai,hj,hk])
  ·exact key (.wr j) k (by simp) (by simp) (by simp) (by simp [Yai,hj,hk])
  ·exact key (.up j) k (by simp) (by simp) (by simp) (by simp [Yai,hj,hk])
 refine ⟨vl',⟨hm,?_,?_,?_,?_,ho,?_,?_⟩,⟨?_,?_,hbl,fun _ h=>.inl h⟩⟩
 ·exact Yqi hvt h.opn hg hb' hi rfl (by omega)
 ·intro q hq
  obtain ⟨j,hj⟩:=List.getElem?_of_mem hq;by_cases hji:j=i
  ·subst hji
   rw [List.getElem?_set_self hil] at hj;simp at hj;subst hj;exact off p (List.mem_of_getElem? hi)
  ·rw [List.getElem?_set_ne (fun e=>hji e.symm)] at hj
   exact off q (List.mem_of_getElem? hj)
 ·exact Yas h.prs fun k hb=>hk k (h.prs.lt k hb).2 (fun e=>(h.imm .mod mb rfl).1 (by rw [←e];exact hb)) (fun e=>(h.imm .opn g hog).1 (by rw [←e];exact hb)) (fun e=>(h.imm .lg k e).1 hb)
 ·exact Yas h.oth fun k hb=>hk k (h.oth.lt k hb).2 (fun e=>(h.imm .mod mb rfl).2 (by rw [←e];exact hb)) (fun e=>(h.imm .opn g hog).2 (by rw [←e];exact hb)) (fun e=>(h.imm .lg k e).2 hb)
 ·intro a b k ha hb
  rw [hsame] at ha hb;exact b1 a b k ha hb
 ·intro a k ha
  rw [hsame] at ha;exact b2 a k ha
 ·intro k hk' hno
  exact hk k hk' (fun e=>hno .mod (by simp [Yai,e])) (fun e=>hno .opn (by rw [e];exact hog)) (fun e=>hno .lg e)
 ·intro a k ha
  rw [hsame] at ha;exact b3 a k ha
theorem Yj0:∀ (ws:Ycl) (key:ByteArray) (c:Bool×ByteArray),(Ybt ws key c).length≤ws.length+1
 | [],_,_=>by simp [Ybt]
 | p :: r,key,c=>by
  have:=Yj0 r key c;unfold Ybt;split <;> simp
  omega
structure Yhd (l:List (TxV×TxS)) (pairs:Yaf) (log:List Yac):Prop where
 opn:l.length≤4
 prs:pairs.length≤1000
 wrs:∀ p∈l,p.1.writes.length≤999∧p.1.updates.length≤1000∧p.1.read.length≤1999999999999
 kpr:∀ p∈pairs,p.1.size≤1000
 kwr:∀ p∈l,∀ x∈p.1.writes,x.1.size≤1000
 log:log.length≤10000
theorem Ywb (mb:Nat) (n:Ya0) (s:Ya4) (l:List (TxV×TxS)) (pairs other:Yaf) (log:List Yac) (t:Int) (key:ByteArray) (is:Bool) (val:ByteArray) (i:Nat) (p:TxV×TxS) (w:World) (h:Yaq w mb n s l pairs other log) (hs:Yhd l pairs log) (hm:n.mode=1) (hd:n.dead=false) (hf:Ya5 l t=some i) (hi:l[i]? = some p)
 (hk1:1≤key.size) (hk8:key.size≤8) (hv:val.size≤12) (hlk:Ycp l t key true=false) (hac:n.actions<120) (hac0:0≤n.actions) (hrm:Yes pairs l key=true):
 Calls prog 132 #[.pointer (some ⟨mb,0,none⟩),.int .i64 t,.string key,.agg #[.bool is,.string val]] w fun e w'=>e=.returned (.int .i64 0) ∧
  ∃ vw',Yaq w' mb { n with actions:=n.actions+1 } s (l.set i ({ p.1 with writes:=Ybt p.1.writes key (is,val) },{ p.2 with vw:=vw' })) pairs other log∧Ya9 w w' mb s s l (l.set i ({ p.1 with writes:=Ybt p.1.writes key (is,val) },{ p.2 with vw:=vw' })):=by
 have hil:i<l.length:=(List.getElem?_eq_some_iff.1 hi).1
 have ha:Yca n.dead (Ya5 l t) key=((i:Int),0):=by simp only [Yca,hd,hf];rw [if_neg (by simp),if_neg (by omega)]
 have HA:=Yh ha
 have HL:=Yh hlk
 have HR:=Yh hrm
 have HH:=Yh h
 have HS:=Yh hs
 have hv':¬((12:Int)<(val.size:Int)):=by omega
 have hac':¬((120:Int)≤n.actions):=by omega
 obtain ⟨W,hW⟩:∃ W,W=w.alloc (.cells #[.bool is,.string val] 38):=⟨_,rfl⟩
 have hBW:Below w.heap.size w W:=by rw [hW];exact (Below.refl _ _).alloc (Nat.le_refl _) _
 have hNW:W.heap[w.heap.size]? = some (.cells #[.bool is,.string val] 38 (0,0)):=by rw [hW];exact heap_alloc_new w _
 have hNz:w.heap.size<W.heap.size:=Yaj hNW
 have HBW:=Yh hBW
 have HW:Hid (Yaq W mb n s l pairs other log):=HH.out.below hBW
 have HNW:=Yh hNW
 have n1:W.cell? ⟨w.heap.size,1,none⟩=some (.string val):=Yaa hNW rfl
 clear h ha hlk hrm hs hBW hNW
 go_enter func132,ntmps132
 go_wp2_with fail
 rw [←hW]
 clear hW
 refine (Yf1 mb n s l t key W HW.out.cell HW.out.opn (by have:=HS.out.opn;omega)).mono ?_
 rw [HA.out]
 rintro e w' ⟨rfl,rfl⟩
 go_wp2_with (first
  | (go_at_call 130;go_must (
   refine (Yh4 mb n s l t key true W HW.out.cell HW.out.opn HW.out.txs (by have:=HS.out.opn;omega)).mono ?_;rw [HL.out];rintro e w1 ⟨rfl,hb1⟩;have H1:Hid (Yaq w1 mb n s l pairs other log):=HW.out.below hb1;have HB1:Hid (Below w.heap.size w w1):=HBW.out.trans (hb1.mono (by omega));have HN1:Hid (w1.heap[w.heap.size]? = some (.cells #[.bool is,.string val] 38 (0,0))):=(hb1.block _ hNz).trans HNW.out;clear hb1 HW n1))
  | (go_at_call 171;go_must (
   refine (Yla mb n s l pairs key w1 H1.out.cell H1.out.opn H1.out.prs H1.out.txs (by have:=HS.out.opn;omega) HS.out.prs (fun q hq=>by have:=(HS.out.wrs q hq).1;omega) (by omega) HS.out.kpr HS.out.kwr).mono ?_;rw [HR.out];rintro e w2 ⟨rfl,hb2⟩;have H2:Hid (Yaq w2 mb n s l pairs other log):=H1.out.below hb2;have c7:w2.cell? ⟨mb,7,none⟩=some (.int .i64 n.actions):=Yaa H2.out.cell rfl;have HB2:Hid (Below w.heap.size w w2):=HB1.out.trans (hb2.mono HB1.out.size);have HN2:Hid (w2.heap[w.heap.size]? = some (.cells #[.bool is,.string val] 38 (0,0))):=(hb2.block _ (Yaj HN1.out)).trans HN1.out;clear hb2 H1 HB1 HN1))
  | (go_at_call 131;go_must (
   refine (Ym8 mb n s l pairs i p key w2 H2.out.cell H2.out.opn H2.out.prs (H2.out.txs p (List.mem_of_getElem? hi)) hi (by have:=HS.out.opn;omega)).mono ?_;rintro e w3 ⟨rfl,hb3⟩;have H3:Hid (Yaq w3 mb n s l pairs other log):=H2.out.below hb3;have HB3:Hid (Below w.heap.size w w3):=HB2.out.trans (hb3.mono HB2.out.size);have HN3:Hid (w3.heap[w.heap.size]? = some (.cells #[.bool is,.string val] 38 (0,0))):=(hb3.block _ (Yaj HN2.out)).trans HN2.out;obtain ⟨g,cap,cur,hvt,hcur,hcell,hog,hgm⟩:=H3.out.openBlock (by omega);have HG3:Hid (w3.heap[g]? = some (.cells cur 200 (0,0))∧s.vt=.slice (some ⟨g,0,none⟩) l.length cap∧(∀ (j:Nat) u,(Ya2 l)[j]? = some u→cur[j]? = some u)∧Yai mb s l .opn=some g∧g≠mb):=⟨hcur,hvt,hcell,hog,hgm⟩;have c5:w3.cell? ⟨mb,5,none⟩=some (.slice (some ⟨g,0,none⟩) l.length cap):=by rw [←hvt];exact Yaa H3.out.cell rfl
   have hm3:mb<w3.heap.size:=H3.out.lt .mod mb rfl;have hN3:w.heap.size<w3.heap.size:=Yaj HN3.out;have k0:w3.cell? ⟨w.heap.size,0,none⟩=some (.bool is):=Yaa HN3.out rfl;have k1:w3.cell? ⟨w.heap.size,1,none⟩=some (.string val):=Yaa HN3.out rfl;have hil':(i:Int)<(l.length:Int):=by omega
   clear hb3 H2 HB2 HN2 c7 hvt hcur hcell hog hgm))
  | (go_at_call 172;go_must (
   have hb4:=(Below.refl w3.heap.size w3).alloc (Nat.le_refl _) (.cells #[.bool (Ycb p.1 pairs key).1,.string (Ycb p.1 pairs key).2] 38);have H4:=H3.out.below hb4;have hcur4:=(hb4.block g (H3.out.lt .opn g HG3.out.2.2.2.1)).trans HG3.out.1;have tw:=H4.txs p (List.mem_of_getElem? hi);refine (Yqh g (i*5) cur 200 p.2.vw p.1.writes key is val _ hcur4 (HG3.out.2.2.1 _ _ (Yb4 l i p hi 3 _ rfl)) (fun e=>?hne) tw.2.1 (by have:=(HS.out.wrs p (List.mem_of_getElem? hi)).1;omega)).mono ?_
   case hne=>
    have:=H4.apart (.wr i) .opn g (by simp [Yai,hi,e]) HG3.out.2.2.2.1
    cases this
   rintro e w5 ⟨rfl,hwa⟩;obtain ⟨vw',H5,S5⟩:=Yqj H4 hi HG3.out.2.1 hcur4 hwa (by have h1:=Yj0 p.1.writes key (is,val);have:=(HS.out.wrs p (List.mem_of_getElem? hi)).1;omega);have HM5:Hid (Yaq w5 mb n s (l.set i ({ p.1 with writes:=Ybt p.1.writes key (is,val) },{ p.2 with vw:=vw' })) pairs other log∧Ya9 w w5 mb s s l (l.set i ({ p.1 with writes:=Ybt p.1.writes key (is,val) },{ p.2 with vw:=vw' }))):=⟨H5,((Ya9.of_below HH.out HB3.out).trans (Ya9.of_below H3.out hb4)).trans S5⟩;have e7:w5.cell? ⟨mb,7,none⟩=some (.int .i64 n.actions):=Yaa H5.cell rfl;have g7:=Yah 7 H5.cell;have e0:w5.cell? ⟨mb,0,none⟩=some (.int .i64 1):=Yaa H5.cell (by rw [←hm];rfl);clear hb4 H4 hcur4 tw hwa H5 S5)))
 go_ret
 obtain ⟨M6,S6⟩:=Yqk (n':={ n with actions:=n.actions+1 }) HM5.out.1 ((Yak _ _ 7 _ _ _ HM5.out.1.cell).trans rfl) (fun k hk=>Below.heap_setCell _ _ _ _ hk) ((Below.refl _ _).setCell (p:=⟨mb,7,none⟩) (by simp) _)
 exact ⟨rfl,vw',M6,HM5.out.2.trans S6⟩
theorem Ywc (mb:Nat) (n:Ya0) (s:Ya4) (l:List (TxV×TxS)) (pairs other:Yaf) (log:List Yac) (i:Nat) (p:TxV×TxS) (no:Int) (w1 w2:World) (O:Obj) (g cap g2 c2:Nat) (h:Yaq w1 mb n s l pairs other log) (hi:l[i]? = some p) (hvt:s.vt=.slice (some ⟨g,0,none⟩) l.length cap) (hrl:p.1.updates.length≤10000)
 (ho2:w2.ownsRow 0 3 1 (.slice (some ⟨g2,0,none⟩) (p.1.updates.length+1) c2) (p.1.updates.length+1) (p.1.updates.map (Value.int .i64) ++ [.int .i64 no]))
 (hg2:(w1.alloc O).drew.grownBy w2 p.2.vu.ownBlock) (hat:p.2.vu.ownBlock=some g2∨g2=w1.heap.size+1):
 Yaq (w2.setCell ⟨g,i*5+4,none⟩ (.slice (some ⟨g2,0,none⟩) (p.1.updates.length+1) c2)) mb n s (l.set i ({ p.1 with updates:=p.1.updates ++ [no] },{ p.2 with vu:=.slice (some ⟨g2,0,none⟩) (p.1.updates.length+1) c2 })) pairs other log ∧
  Ya9 w1 (w2.setCell ⟨g,i*5+4,none⟩ (.slice (some ⟨g2,0,none⟩) (p.1.updates.length+1) c2)) mb s s l (l.set i ({ p.1 with updates:=p.1.updates ++ [no] },{ p.2 with vu:=.slice (some ⟨g2,0,none⟩) (p.1.updates.length+1) c2 })):=by
 have hil:i<l.length:=(List.getElem?_eq_some_iff.1 hi).1
 have hog:Yai mb s l .opn=some g:=by simp [Yai,hvt,Value.ownBlock]
 have hgw:=h.lt _ _ hog
 have hup:∀ k,p.2.vu.ownBlock=some k→Yai mb s l (.up i)=some k:=fun k hk=>by simp [Yai,hi,hk]
 have hgr:p.2.vu.ownBlock≠some g:=fun e=>by have:=h.apart _ _ _ (hup g e) hog;cases this
 have hg2g:g2≠g:=by
  rcases hat with hat | hat
  ·exact fun e=>hgr (by rw [hat,e])
  ·omega
 have hk2:∀ k,k<w1.heap.size→p.2.vu.ownBlock≠some k→w2.heap[k]? = w1.heap[k]?:=fun k h1 h2=>
  (hg2.block k (by simp;omega) (fun e=>h2 e.symm)).trans (Below.heap_alloc w1 _ k h1)
 have hk3:∀ k,k<w1.heap.size→k≠g→p.2.vu.ownBlock≠some k→(w2.setCell ⟨g,i*5+4,none⟩ (.slice (some ⟨g2,0,none⟩) (p.1.updates.length+1) c2)).heap[k]? = w1.heap[k]?:=fun k h1 h2 h3=>
  (Below.heap_setCell _ _ _ _ h2).trans (hk2 k h1 h3)
 obtain ⟨r1,r2,r3⟩:=h.rest1 (w':=w2.setCell ⟨g,i*5+4,none⟩ (.slice (some ⟨g2,0,none⟩) (p.1.updates.length+1) c2)) (.up i) (fun k h1 h2 h3=>hk3 k h1 (fun e=>h2 (by rw [e];exact hog)) (fun e=>h3 (hup k e)))
 have tw:Yc9 w1 p:=h.txs p (List.mem_of_getElem? hi)
 obtain ⟨b1,b2,b3⟩:=Ync h i p ({ p.1 with updates:=p.1.updates ++ [no] },{ p.2 with vu:=.slice (some ⟨g2,0,none⟩) (p.1.updates.length+1) c2 }) hi (fun k hk=>.inl hk) (fun k hk=>.inl hk)
  (fun k hk=>by
   simp [Value.ownBlock] at hk;subst hk;rcases hat with hat | hat
   ·exact .inl hat
   ·exact .inr ⟨by omega,fun e=>by have:=(tw.1.lt _ e).2;omega,fun e=>by have:=(tw.2.1.lt _ e).2;omega⟩)
 refine ⟨⟨?_,?_,?_,r2,r3,?_,b1,b2⟩,⟨?_,b3,?_,fun _ h=>.inl h⟩⟩
 ·exact (r1 .mod mb (by simp) (by simp) rfl).trans h.cell
 ·have hop:=h.opn
  rw [hvt] at hop ⊢;have hop2:=Yas (w':=w2) hop (fun k hk=>by
   simp [Value.ownBlock] at hk;subst hk;exact hk2 g hgw hgr)
  have:=Ydx hop2 (i*5+4) (.slice (some ⟨g2,0,none⟩) (p.1.updates.length+1) c2);rw [Ylb l i p ({ p.1 with updates:=p.1.updates ++ [no] },{ p.2 with vu:=.slice (some ⟨g2,0,none⟩) (p.1.updates.length+1) c2 }) 4 _ hi rfl (by omega)] at this;rw [List.length_set];exact this
 ·intro q hq
  obtain ⟨j,hj⟩:=List.getElem?_of_mem hq;by_cases hji:j=i
  ·subst hji
   rw [List.getElem?_set_self hil] at hj;simp at hj;subst hj;refine ⟨Yas tw.1 (fun k hk=>r1 (.rd j) k (by simp) (by simp) (by simp [Yai,hi,hk])),Yas tw.2.1 (fun k hk=>r1 (.wr j) k (by simp) (by simp) (by simp [Yai,hi,hk])),?_,tw.2.2.2.1,tw.2.2.2.2.1,by simp;omega⟩;have:=Yas (w':=w2.setCell ⟨g,j*5+4,none⟩ (.slice (some ⟨g2,0,none⟩) (p.1.updates.length+1) c2)) ho2 (fun k hk=>Below.heap_setCell _ _ _ _ (by
    simp [Value.ownBlock] at hk;subst hk;exact hg2g))
   simpa using this
  ·rw [List.getElem?_set_ne (fun e=>hji e.symm)] at hj
   refine (h.txs q (List.mem_of_getElem? hj)).off fun k hk=>?_
   rcases hk with hk | hk | hk
   ·exact r1 (.rd j) k (by simp) (by simp) (by simp [Yai,hj,hk])
   ·exact r1 (.wr j) k (by simp) (by simp) (by simp [Yai,hj,hk])
   ·exact r1 (.up j) k (by simp) (by simp [hji]) (by simp [Yai,hj,hk])
 ·exact Yas h.lg (fun k hk=>r1 .lg k (by simp) (by simp) hk)
 ·intro k hk hno
  exact hk3 k hk (fun e=>hno .opn (by rw [e];exact hog)) (fun e=>hno (.up i) (hup k e))
 ·have hs:=hg2.size
  have:Below 0 w1 w2:=⟨hg2.os,hg2.tape,hg2.output,by simp at hs;omega,fun k hk=>by omega⟩;exact this.setCell (p:=⟨g,i*5+4,none⟩) (by simp) _
theorem Ywd:(prog.info? 3).map (fun i=>(i.zero,i.size,i.bytes))=some (some (.int .i64 0),1,8):=by kernel_rfl
theorem Ywe (mb:Nat) (n:Ya0) (s:Ya4) (l:List (TxV×TxS)) (pairs other:Yaf) (log:List Yac) (t:Int) (key:ByteArray) (is:Bool) (val:ByteArray) (i:Nat) (p:TxV×TxS) (w:World) (h:Yaq w mb n s l pairs other log) (hs:Yhd l pairs log) (hm:n.mode=0) (hd:n.dead=false) (hf:Ya5 l t=some i) (hi:l[i]? = some p)
 (hk1:1≤key.size) (hk8:key.size≤8) (hv:val.size≤12) (hlk:Ycp l t key true=false) (hac:n.actions<120) (hac0:0≤n.actions) (hrm:Yes pairs l key=true):
 Calls prog 132 #[.pointer (some ⟨mb,0,none⟩),.int .i64 t,.string key,.agg #[.bool is,.string val]] w fun e w'=>e=.returned (.int .i64 0) ∧
  ∃ vw' vu' vl',Yaq w' mb { n with actions:=n.actions+1 } { s with vl:=vl' } (l.set i ({ p.1 with writes:=Ybt p.1.writes key (is,val),last:=(log.length:Int)+1,updates:=p.1.updates ++ [(log.length:Int)+1] },{ p.2 with vw:=vw',vu:=vu' })) pairs other (log ++ [⟨1,p.1.id,p.1.last,0,key,(Ycb p.1 pairs key).1,(Ycb p.1 pairs key).2,is,val⟩]) ∧
   Ya9 w w' mb s { s with vl:=vl' } l (l.set i ({ p.1 with writes:=Ybt p.1.writes key (is,val),last:=(log.length:Int)+1,updates:=p.1.updates ++ [(log.length:Int)+1] },{ p.2 with vw:=vw',vu:=vu' })):=by
 have hil:i<l.length:=(List.getElem?_eq_some_iff.1 hi).1
 have ha:Yca n.dead (Ya5 l t) key=((i:Int),0):=by simp only [Yca,hd,hf];rw [if_neg (by simp),if_neg (by omega)]
 have HA:=Yh ha
 have HL:=Yh hlk
 have HR:=Yh hrm
 have HH:=Yh h
 have HS:=Yh hs
 have hv':¬((12:Int)<(val.size:Int)):=by omega
 have hac':¬((120:Int)≤n.actions):=by omega
 obtain ⟨W,hW⟩:∃ W,W=w.alloc (.cells #[.bool is,.string val] 38):=⟨_,rfl⟩
 have hBW:Below w.heap.size w W:=by rw [hW];exact (Below.refl _ _).alloc (Nat.le_refl _) _
 have hNW:W.heap[w.heap.size]? = some (.cells #[.bool is,.string val] 38 (0,0)):=by rw [hW];exact heap_alloc_new w _
 have hNz:w.heap.size<W.heap.size:=Yaj hNW
 have HBW:=Yh hBW
 have HW:Hid (Yaq W mb n s l pairs other log):=HH.out.below hBW
 have HNW:=Yh hNW
 have n1:W.cell? ⟨w.heap.size,1,none⟩=some (.string val):=Yaa hNW rfl
 clear h ha hlk hrm hs hBW hNW
 go_enter func132,ntmps132
 go_wp2_with fail
 rw [←hW]
 clear hW
 refine (Yf1 mb n s l t key W HW.out.cell HW.out.opn (by have:=HS.out.opn;omega)).mono ?_
 rw [HA.out]
 rintro e w' ⟨rfl,rfl⟩
 go_wp2_with (first
  | (go_at_call 130;go_must (
   refine (Yh4 mb n s l t key true W HW.out.cell HW.out.opn HW.out.txs (by have:=HS.out.opn;omega)).mono ?_;rw [HL.out];rintro e w1 ⟨rfl,hb1⟩;have H1:Hid (Yaq w1 mb n s l pairs other log):=HW.out.below hb1;have HB1:Hid (Below w.heap.size w w1):=HBW.out.trans (hb1.mono (by omega));have HN1:Hid (w1.heap[w.heap.size]? = some (.cells #[.bool is,.string val] 38 (0,0))):=(hb1.block _ hNz).trans HNW.out;clear hb1 HW n1))
  | (go_at_call 171;go_must (
   refine (Yla mb n s l pairs key w1 H1.out.cell H1.out.opn H1.out.prs H1.out.txs (by have:=HS.out.opn;omega) HS.out.prs (fun q hq=>by have:=(HS.out.wrs q hq).1;omega) (by omega) HS.out.kpr HS.out.kwr).mono ?_;rw [HR.out];rintro e w2 ⟨rfl,hb2⟩;have H2:Hid (Yaq w2 mb n s l pairs other log):=H1.out.below hb2;have c7:w2.cell? ⟨mb,7,none⟩=some (.int .i64 n.actions):=Yaa H2.out.cell rfl;have HB2:Hid (Below w.heap.size w w2):=HB1.out.trans (hb2.mono HB1.out.size);have HN2:Hid (w2.heap[w.heap.size]? = some (.cells #[.bool is,.string val] 38 (0,0))):=(hb2.block _ (Yaj HN1.out)).trans HN1.out;clear hb2 H1 HB1 HN1))
  | (go_at_call 131;go_must (
   refine (Ym8 mb n s l pairs i p key w2 H2.out.cell H2.out.opn H2.out.prs (H2.out.txs p (List.mem_of_getElem? hi)) hi (by have:=HS.out.opn;omega)).mono ?_;rintro e w3 ⟨rfl,hb3⟩;have H3:Hid (Yaq w3 mb n s l pairs other log):=H2.out.below hb3;have HB3:Hid (Below w.heap.size w w3):=HB2.out.trans (hb3.mono HB2.out.size);have HN3:Hid (w3.heap[w.heap.size]? = some (.cells #[.bool is,.string val] 38 (0,0))):=(hb3.block _ (Yaj HN2.out)).trans HN2.out;obtain ⟨g,cap,cur,hvt,hcur,hcell,hog,hgm⟩:=H3.out.openBlock (by omega);have HG3:Hid (w3.heap[g]? = some (.cells cur 200 (0,0))∧s.vt=.slice (some ⟨g,0,none⟩) l.length cap∧(∀ (j:Nat) u,(Ya2 l)[j]? = some u→cur[j]? = some u)∧Yai mb s l .opn=some g∧g≠mb):=⟨hcur,hvt,hcell,hog,hgm⟩;have c5:w3.cell? ⟨mb,5,none⟩=some (.slice (some ⟨g,0,none⟩) l.length cap):=by rw [←hvt];exact Yaa H3.out.cell rfl
   have hm3:mb<w3.heap.size:=H3.out.lt .mod mb rfl;have hN3:w.heap.size<w3.heap.size:=Yaj HN3.out;have k0:w3.cell? ⟨w.heap.size,0,none⟩=some (.bool is):=Yaa HN3.out rfl;have k1:w3.cell? ⟨w.heap.size,1,none⟩=some (.string val):=Yaa HN3.out rfl;have hil':(i:Int)<(l.length:Int):=by omega
   clear hb3 H2 HB2 HN2 c7 hvt hcur hcell hog hgm))
  | (go_at_call 172;go_must (
   have hb4:=(Below.refl w3.heap.size w3).alloc (Nat.le_refl _) (.cells #[.bool (Ycb p.1 pairs key).1,.string (Ycb p.1 pairs key).2] 38);have H4:=H3.out.below hb4;have hcur4:=(hb4.block g (H3.out.lt .opn g HG3.out.2.2.2.1)).trans HG3.out.1;have tw:=H4.txs p (List.mem_of_getElem? hi);refine (Yqh g (i*5) cur 200 p.2.vw p.1.writes key is val _ hcur4 (HG3.out.2.2.1 _ _ (Yb4 l i p hi 3 _ rfl)) (fun e=>?hne) tw.2.1 (by have:=(HS.out.wrs p (List.mem_of_getElem? hi)).1;omega)).mono ?_
   case hne=>
    have:=H4.apart (.wr i) .opn g (by simp [Yai,hi,e]) HG3.out.2.2.2.1
    cases this
   rintro e w5 ⟨rfl,hwa⟩;obtain ⟨vw',H5,S5⟩:=Yqj H4 hi HG3.out.2.1 hcur4 hwa (by have h1:=Yj0 p.1.writes key (is,val);have:=(HS.out.wrs p (List.mem_of_getElem? hi)).1;omega);have HM5:Hid (Yaq w5 mb n s (l.set i ({ p.1 with writes:=Ybt p.1.writes key (is,val) },{ p.2 with vw:=vw' })) pairs other log∧Ya9 w w5 mb s s l (l.set i ({ p.1 with writes:=Ybt p.1.writes key (is,val) },{ p.2 with vw:=vw' }))):=⟨H5,((Ya9.of_below HH.out HB3.out).trans (Ya9.of_below H3.out hb4)).trans S5⟩;have e7:w5.cell? ⟨mb,7,none⟩=some (.int .i64 n.actions):=Yaa H5.cell rfl;have g7:=Yah 7 H5.cell;have e0:w5.cell? ⟨mb,0,none⟩=some (.int .i64 0):=Yaa H5.cell (by rw [←hm];rfl);have hnb:∀ k,w.heap.size≤k→k<w3.heap.size+1→(∀ b,Yai mb s l b≠some k)→w5.heap[k]? = (w3.alloc (.cells #[.bool (Ycb p.1 pairs key).1,.string (Ycb p.1 pairs key).2] 38)).heap[k]?:=fun k _ h2 h3=>S5.kept k (by simpa using h2) h3
   have hnone:∀ k,w.heap.size≤k→∀ b,Yai mb s l b≠some k:=fun k h1 b e=>by have:=HH.out.lt b k e;omega
   have hN5:=(hnb w.heap.size (Nat.le_refl _) (by omega) (hnone _ (Nat.le_refl _))).trans ((Below.heap_alloc w3 _ _ hN3).trans HN3.out);have hO5:=(hnb w3.heap.size (by omega) (by omega) (hnone _ (by omega))).trans (heap_alloc_new w3 _);have q0:w5.cell? ⟨w.heap.size,0,none⟩=some (.bool is):=Yaa hN5 rfl;have q1:w5.cell? ⟨w.heap.size,1,none⟩=some (.string val):=Yaa hN5 rfl;have q2:w5.cell? ⟨w3.heap.size,0,none⟩=some (.bool (Ycb p.1 pairs key).1):=Yaa hO5 rfl;have q3:w5.cell? ⟨w3.heap.size,1,none⟩=some (.string (Ycb p.1 pairs key).2):=Yaa hO5 rfl;have hmN:mb≠w.heap.size:=fun e=>by have:=HH.out.lt .mod mb rfl;omega
   have hmO:mb≠w3.heap.size:=fun e=>by omega
   clear hb4 H4 hcur4 tw hwa H5 S5 hnb hnone hN5 hO5)))
 obtain ⟨M6,S6⟩:=Yqk (n':={ n with actions:=n.actions+1 }) HM5.out.1 ((Yak _ _ 7 _ _ _ HM5.out.1.cell).trans rfl) (fun k hk=>Below.heap_setCell _ _ _ _ hk) ((Below.refl 0 w5).setCell (p:=⟨mb,7,none⟩) (by simp) _)
 obtain ⟨W6,hW6⟩:∃ W6,W6=w5.setCell ⟨mb,7,none⟩ (.int .i64 (n.actions+1)):=⟨_,rfl⟩
 rw [←hW6] at M6 S6 ⊢
 have S6':=HM5.out.2.trans S6
 clear hW6 e7 g7 e0 q0 q1 q2 q3 c5 k0 k1 S6 HM5
 have hi1:(l.set i ({ p.1 with writes:=Ybt p.1.writes key (is,val) },{ p.2 with vw:=vw' }))[i]? = some ({ p.1 with writes:=Ybt p.1.writes key (is,val) },{ p.2 with vw:=vw' }):=by rw [List.getElem?_set_self hil]
 obtain ⟨g',cap',cur',hvt',hcur',hcell',hog',hgm'⟩:=M6.openBlock (by rw [List.length_set];omega)
 obtain rfl:g=g':=by
  have h1:=HG3.out.2.1;rw [hvt'] at h1;simp at h1;exact h1.1.symm
 have hc0:=hcell' _ _ (Yb4 _ i _ hi1 0 _ rfl)
 have hc1:=hcell' _ _ (Yb4 _ i _ hi1 1 _ rfl)
 refine (Yhb mb g (i*5) { n with actions:=n.actions+1 } s cur' log p.1.id p.1.last ⟨1,0,0,0,key,(Ycb p.1 pairs key).1,(Ycb p.1 pairs key).2,is,val⟩ W6 M6.cell hcur' hc0 hc1 M6.lg (by have:=HS.out.log;omega) (Ne.symm hgm') (fun e=>?hlm) (fun e=>?hlo)).mono ?_
 case hlm=>have:=M6.apart .lg .mod mb e rfl;cases this
 case hlo=>have:=M6.apart .lg .opn g e hog';cases this
 rintro e w7 ⟨rfl,hna⟩
 obtain ⟨vl',M7,S7⟩:=Yhc M6 hi1 hvt' hcur' hna
 rw [List.set_set] at M7 S7
 have S7':=S6'.trans S7
 have hi2:(l.set i ({ ({ p.1 with writes:=Ybt p.1.writes key (is,val) }:TxV) with last:=(log.length:Int)+1 },{ p.2 with vw:=vw' }))[i]? = some ({ ({ p.1 with writes:=Ybt p.1.writes key (is,val) }:TxV) with last:=(log.length:Int)+1 },{ p.2 with vw:=vw' }):=by rw [List.getElem?_set_self hil]
 obtain ⟨g'',cap'',cur'',hvt'',hcur'',hcell'',hog'',hgm''⟩:=M7.openBlock (by rw [List.length_set];omega)
 obtain rfl:g=g'':=by
  have h1:=HG3.out.2.1;simp only at hvt'';rw [hvt''] at h1;simp at h1;exact h1.1.symm
 have c4:=Yaa hcur'' (hcell'' _ _ (Yb4 _ i _ hi2 4 _ rfl))
 have z4:=Yah (i*5+4) hcur''
 have tw:=M7.txs _ (List.mem_of_getElem? hi2)
 obtain ⟨au,cu,hvu,_⟩:=Ya6 tw.2.2.1
 simp only at hvu c4
 rw [hvu] at c4
 have HU:Hid (w7.ownsRow 0 3 1 (.slice au p.1.updates.length cu) p.1.updates.length (p.1.updates.map (Value.int .i64))):=by
  have:=tw.2.2.1;simp only at this;rw [hvu] at this;exact this
 have hgw:g<w7.heap.size:=M7.lt .opn g hog''
 have hug:p.2.vu.ownBlock≠some g:=fun e=>by
  have:=M7.apart (.up i) .opn g (by simp [Yai,hi2,e]) hog''
  cases this
 have HM7:=Yh M7
 have HS7:=Yh S7'
 have HVU:=Yh hvu
 have HC7:=Yh hcur''
 have HVT:=Yh hvt''
 have hul:=(HS.out.wrs p (List.mem_of_getElem? hi)).2.1
 clear M6 S6' M7 S7 S7' tw hvu hcur' hcell' hog' hgm' hc0 hc1 hvt' hna hcur'' hcell'' hog'' hgm'' hvt''
 obtain ⟨i0,hi0,hx0,hx1,hx2⟩:=info_parts Ywd
 go_wp2_with (first | (at_builtin;go_must (
  refine wpList_append_own_at _ rfl _ _ 184 rfl 0 3 i0 _ 1 8 underlying184 hi0 hx0 hx1 hx2 rfl (by decide) (.slice au p.1.updates.length cu) p.1.updates.length (p.1.updates.map (Value.int .i64)) rfl (HU.out.alloc _) ⟨w7.heap.size,0,none⟩ 1 1 [.int .i64 ((log.length:Int)+1)] rfl rfl (cell_one_new _ _ _) (fun x hx=>by simp at hx;subst hx;rfl) (by unfold maxLen;omega) (by omega) (by omega) ?_;intro v8 w8 ho8 hg8 hnil hat;obtain ⟨g8,c8,rfl⟩:=Ybn ho8 (by omega);have hat':p.2.vu.ownBlock=some g8∨g8=w7.heap.size+1:=by
   rcases hat with h | h
   ·refine .inl ?_
    rw [HVU.out,←h];rfl
   ·refine .inr ?_
    simp [Value.ownBlock] at h;exact h
  have hgb:w8.heap[g]? = w7.heap[g]?:=(hg8.block g (by simp;omega) (fun e=>hug (by rw [HVU.out,←e]))).trans (Below.heap_alloc w7 _ g hgw);have e4:w8.cell? ⟨g,i*5+4,none⟩=some (.slice au p.1.updates.length cu):=(World.cell?_of_block (a:=⟨g,i*5+4,none⟩) hgb).trans c4;have y4:w8.frozen? ⟨g,i*5+4,none⟩=false:=Yah _ (hgb.trans HC7.out);rw [←HVU.out] at hg8;have HFIN:=Yh (Ywc mb { n with actions:=n.actions+1 } { s with vl:=vl' } (l.set i ({ ({ p.1 with writes:=Ybt p.1.writes key (is,val) }:TxV) with last:=(log.length:Int)+1 },{ p.2 with vw:=vw' })) pairs other _ i ({ ({ p.1 with writes:=Ybt p.1.writes key (is,val) }:TxV) with last:=(log.length:Int)+1 },{ p.2 with vw:=vw' }) ((log.length:Int)+1) w7 w8 _ g cap'' g8 c8 HM7.out hi2 HVT.out (by simp only;omega) ho8 ⟨hg8.os,hg8.tape,hg8.output,hg8.size,hg8.block⟩ hat');clear ho8 hg8 hnil hat hat' hgb)))
 have hmm:({ n with actions:=n.actions+1 }:Ya0) = { n with mode:=0,dead:=false,actions:=n.actions+1 }:=by rw [←hm,←hd]
 have HFA:=HFIN.out.1
 have HFB:=HS7.out.trans HFIN.out.2
 rw [hmm,List.set_set] at HFA
 rw [List.set_set] at HFB
 go_ret
 exact ⟨rfl,vw',_,vl',HFA,HFB⟩
def Yek (n:Ya0) (l:List (TxV×TxS)) (pairs:Yaf) (t:Int) (key val:ByteArray):Int:=
 if (Yca n.dead (Ya5 l t) key).2≠0 then (Yca n.dead (Ya5 l t) key).2 else if 12<val.size then 7 else if Ycp l t key true then 8 else if 120≤n.actions∨Yes pairs l key=false then 10 else 0
theorem Ywf (mb:Nat) (n:Ya0) (s:Ya4) (l:List (TxV×TxS)) (pairs other:Yaf) (log:List Yac) (t:Int) (key:ByteArray) (is:Bool) (val:ByteArray) (w:World) (h:Yaq w mb n s l pairs other log) (hs:Yhd l pairs log) (hk8:(Yca n.dead (Ya5 l t) key).2=0→key.size≤8) (hv:val.size≤140737488355328) (he:Yek n l pairs t key val≠0):
 Calls prog 132 #[.pointer (some ⟨mb,0,none⟩),.int .i64 t,.string key,.agg #[.bool is,.string val]] w fun e w'=>e=.returned (.int .i64 (Yek n l pairs t key val))∧Below w.heap.size w w':=by
 have HH:=Yh h
 have HS:=Yh hs
 obtain ⟨W,hW⟩:∃ W,W=w.alloc (.cells #[.bool is,.string val] 38):=⟨_,rfl⟩
 have hBW:Below w.heap.size w W:=by rw [hW];exact (Below.refl _ _).alloc (Nat.le_refl _) _
 have hNW:W.heap[w.heap.size]? = some (.cells #[.bool is,.string val] 38 (0,0)):=by rw [hW];exact heap_alloc_new w _
 have HBW:=Yh hBW
 have HW:Hid (Yaq W mb n s l pairs other log):=HH.out.below hBW
 have n1:W.cell? ⟨w.heap.size,1,none⟩=some (.string val):=Yaa hNW rfl
 clear h hs hBW hNW
 by_cases ha:(Yca n.dead (Ya5 l t) key).2=0
 ·have HA:=Yh ha
  have hk:=hk8 ha;by_cases hv12:12<val.size
  ·have hv':(12:Int)<(val.size:Int):=by omega
   have HE:Hid (Yek n l pairs t key val=7):=by show _=_;simp [Yek,ha,hv12]
   clear ha he hk8;go_enter func132,ntmps132;go_wp2_with fail
   rw [←hW];clear hW;refine (Yf1 mb n s l t key W HW.out.cell HW.out.opn (by have:=HS.out.opn;omega)).mono ?_;rw [HA.out];rintro e w' ⟨rfl,rfl⟩;go_wp2_with fail
   go_ret;exact ⟨by rw [HE.out];rfl,HBW.out⟩
  ·have hv':¬(12:Int)<(val.size:Int):=by omega
   by_cases hl:Ycp l t key true=true
   ·have HE:Hid (Yek n l pairs t key val=8):=by show _=_;simp [Yek,ha,hv12,hl]
    have HL:=Yh hl;clear ha he hk8 hl;go_enter func132,ntmps132;go_wp2_with fail
    rw [←hW];clear hW;refine (Yf1 mb n s l t key W HW.out.cell HW.out.opn (by have:=HS.out.opn;omega)).mono ?_;rw [HA.out];rintro e w' ⟨rfl,rfl⟩;go_wp2_with (first
     | (go_at_call 130;go_must (
      refine (Yh4 mb n s l t key true W HW.out.cell HW.out.opn HW.out.txs (by have:=HS.out.opn;omega)).mono ?_;rw [HL.out];rintro e w1 ⟨rfl,hb1⟩;have HB1:Hid (Below w.heap.size w w1):=HBW.out.trans (hb1.mono HBW.out.size);clear hb1)))
    go_ret;exact ⟨by rw [HE.out];rfl,HB1.out⟩
   ·have hl':Ycp l t key true=false:=by simpa using hl
    have HL:=Yh hl';have HE:Hid (Yek n l pairs t key val=10):=by
     show _=_;by_cases hf:120≤n.actions∨Yes pairs l key=false
     ·simp only [Yek,ha,hl'];rw [if_neg (by simp),if_neg hv12,if_neg (by simp),if_pos hf]
     ·refine absurd ?_ he
      simp only [Yek,ha,hl'];rw [if_neg (by simp),if_neg hv12,if_neg (by simp),if_neg hf]
    have hf:120≤n.actions∨Yes pairs l key=false:=by
     rcases Decidable.em (120≤n.actions∨Yes pairs l key=false) with hf | hf
     ·exact hf
     ·refine absurd ?_ he
      simp only [Yek,ha,hl'];rw [if_neg (by simp),if_neg hv12,if_neg (by simp),if_neg hf]
    clear ha he hk8 hl hl';by_cases hac:(120:Int)≤n.actions
    ·clear hf
     go_enter func132,ntmps132;go_wp2_with fail
     rw [←hW];clear hW;refine (Yf1 mb n s l t key W HW.out.cell HW.out.opn (by have:=HS.out.opn;omega)).mono ?_;rw [HA.out];rintro e w' ⟨rfl,rfl⟩;go_wp2_with (first
      | (go_at_call 130;go_must (
       refine (Yh4 mb n s l t key true W HW.out.cell HW.out.opn HW.out.txs (by have:=HS.out.opn;omega)).mono ?_;rw [HL.out];rintro e w1 ⟨rfl,hb1⟩;have H1:Hid (Yaq w1 mb n s l pairs other log):=HW.out.below hb1;have HB1:Hid (Below w.heap.size w w1):=HBW.out.trans (hb1.mono HBW.out.size);clear hb1))
      | (go_at_call 171;go_must (
       refine (Yla mb n s l pairs key w1 H1.out.cell H1.out.opn H1.out.prs H1.out.txs (by have:=HS.out.opn;omega) HS.out.prs (fun q hq=>by have:=(HS.out.wrs q hq).1;omega) (by omega) HS.out.kpr HS.out.kwr).mono ?_;rintro e w2 ⟨rfl,hb2⟩;have c7:w2.cell? ⟨mb,7,none⟩=some (.int .i64 n.actions):=Yaa (H1.out.below hb2).cell rfl;have HB2:Hid (Below w.heap.size w w2):=HB1.out.trans (hb2.mono HB1.out.size);clear hb2)))
     go_ret;exact ⟨by rw [HE.out];rfl,HB2.out⟩
    ·have HR:Hid (Yes pairs l key=false):=by
      rcases hf with hf | hf
      ·exact absurd hf hac
      ·exact hf
     clear hf;go_enter func132,ntmps132;go_wp2_with fail
     rw [←hW];clear hW;refine (Yf1 mb n s l t key W HW.out.cell HW.out.opn (by have:=HS.out.opn;omega)).mono ?_;rw [HA.out];rintro e w' ⟨rfl,rfl⟩;go_wp2_with (first
      | (go_at_call 130;go_must (
       refine (Yh4 mb n s l t key true W HW.out.cell HW.out.opn HW.out.txs (by have:=HS.out.opn;omega)).mono ?_;rw [HL.out];rintro e w1 ⟨rfl,hb1⟩;have H1:Hid (Yaq w1 mb n s l pairs other log):=HW.out.below hb1;have HB1:Hid (Below w.heap.size w w1):=HBW.out.trans (hb1.mono HBW.out.size);clear hb1))
      | (go_at_call 171;go_must (
       refine (Yla mb n s l pairs key w1 H1.out.cell H1.out.opn H1.out.prs H1.out.txs (by have:=HS.out.opn;omega) HS.out.prs (fun q hq=>by have:=(HS.out.wrs q hq).1;omega) (by omega) HS.out.kpr HS.out.kwr).mono ?_;rw [HR.out];rintro e w2 ⟨rfl,hb2⟩;have c7:w2.cell? ⟨mb,7,none⟩=some (.int .i64 n.actions):=Yaa (H1.out.below hb2).cell rfl;have HB2:Hid (Below w.heap.size w w2):=HB1.out.trans (hb2.mono HB1.out.size);clear hb2)))
     go_ret;exact ⟨by rw [HE.out];rfl,HB2.out⟩
 ·have HE:Hid (Yek n l pairs t key val=(Yca n.dead (Ya5 l t) key).2):=by show _=_;simp [Yek,ha]
  have ha':((Yca n.dead (Ya5 l t) key).2 == 0)=false:=by simpa using ha
  have ha2:((Yca n.dead (Ya5 l t) key).2 != 0)=true:=by simpa using ha
  clear he hk8;generalize hq:Yca n.dead (Ya5 l t) key=q at ha ha' ha2 HE;have HQ:=Yh hq;clear hq;obtain ⟨q1,q2⟩:=q;simp only at ha ha' ha2 HE;go_enter func132,ntmps132;go_wp2_with fail
  rw [←hW];clear hW;refine (Yf1 mb n s l t key W HW.out.cell HW.out.opn (by have:=HS.out.opn;omega)).mono ?_;rw [HQ.out];rintro e w' ⟨rfl,rfl⟩;go_wp2_with fail
  go_ret;exact ⟨by rw [HE.out];rfl,HBW.out⟩
theorem Ywg {vl':Value} (h:Yaq w mb n s l pairs other log) (ho:w'.ownsRow 0 152 9 vl' (log ++ [x]).length (Ybf (log ++ [x]))) (hm:w'.heap[mb]? = some (.cells (Yc6 n' { s with vl:=vl' }) 119 (0,0)))
 (hk:∀ k,k<w.heap.size→k≠mb→s.vl.ownBlock≠some k→w'.heap[k]? = w.heap[k]?) (hat:∀ g,vl'.ownBlock=some g→s.vl.ownBlock=some g∨w.heap.size≤g) (hbl:Below 0 w w'):
 Yaq w' mb n' { s with vl:=vl' } l pairs other (log ++ [x])∧Ya9 w w' mb s { s with vl:=vl' } l l:=by
 obtain ⟨b1,b2,b3⟩:=Yql h vl' hat
 have key:∀ a k,a≠.mod→a≠.lg→Yai mb s l a=some k→w'.heap[k]? = w.heap[k]?:=fun a k h1 h3 hb=>
  hk k (h.lt a k hb) (fun e=>h1 (h.apart a .mod k hb (by simp [Yai,e]))) (fun e=>h3 (h.apart a .lg k hb e))
 refine ⟨⟨hm,Yas h.opn (fun k hb=>key .opn k (by simp) (by simp) hb),fun q hq=>?_,?_,?_,ho,b1,b2⟩,⟨fun k h1 hno=>hk k h1 (fun e=>hno .mod (by simp [Yai,e])) (fun e=>hno .lg e),b3,hbl,fun _ h=>.inl h⟩⟩
 ·obtain ⟨j,hj⟩:=List.getElem?_of_mem hq
  refine (h.txs q hq).off fun k hk=>?_
  rcases hk with hk | hk | hk
  ·exact key (.rd j) k (by simp) (by simp) (by simp [Yai,hj,hk])
  ·exact key (.wr j) k (by simp) (by simp) (by simp [Yai,hj,hk])
  ·exact key (.up j) k (by simp) (by simp) (by simp [Yai,hj,hk])
 ·exact Yas h.prs fun g hg=>hk g (h.prs.lt g hg).2 (fun e=>(h.imm .mod mb rfl).1 (by rw [←e];exact hg)) (fun e=>(h.imm .lg g e).1 hg)
 ·exact Yas h.oth fun g hg=>hk g (h.oth.lt g hg).2 (fun e=>(h.imm .mod mb rfl).2 (by rw [←e];exact hg)) (fun e=>(h.imm .lg g e).2 hg)
theorem Ywh (mb:Nat) (n:Ya0) (s:Ya4) (l:List (TxV×TxS)) (pairs other:Yaf) (log:List Yac) (w:World) (h:Yaq w mb n s l pairs other log) (hd:n.dead=false) (hac:n.actions<120) (hac0:0≤n.actions) (hlen:log.length≤10000):
 Calls prog 98 #[.pointer (some ⟨mb,0,none⟩)] w fun e w'=>e=.returned (.int .i64 0) ∧
  ∃ vl',Yaq w' mb { n with actions:=n.actions+1 } { s with vl:=vl' } l pairs other (log ++ [⟨5,0,0,0,ByteArray.empty,false,ByteArray.empty,false,ByteArray.empty⟩])∧Ya9 w w' mb s { s with vl:=vl' } l l:=by
 obtain ⟨vp,vo,vt,vl⟩:=s
 obtain ⟨p,cap,hvl,_⟩:=Ya6 h.lg
 simp only at hvl
 subst hvl
 have c1:w.cell? ⟨mb,1,none⟩=some (.bool false):=Yaa h.cell (by rw [←hd];rfl)
 have c7:w.cell? ⟨mb,7,none⟩=some (.int .i64 n.actions):=Yaa h.cell rfl
 have c8:w.cell? ⟨mb,8,none⟩=some (.slice p log.length cap):=Yaa h.cell rfl
 have f7:=Yah 7 h.cell
 have f8:=Yah 8 h.cell
 have hac':¬(120:Int)≤n.actions:=by omega
 have hvm:(Value.slice p log.length cap).ownBlock≠some mb:=fun e=>by have:=h.apart .lg .mod mb e rfl;cases this
 have hmw:mb<w.heap.size:=Yaj h.cell
 obtain ⟨W1,hW1⟩:∃ W1,W1=w.setCell ⟨mb,7,none⟩ (.int .i64 (n.actions+1)):=⟨_,rfl⟩
 have hz1:W1.heap.size=w.heap.size:=by rw [hW1];simp
 have hm1:W1.heap[mb]? = some (.cells (Yc6 { n with actions:=n.actions+1 } ⟨vp,vo,vt,.slice p log.length cap⟩) 119 (0,0)):=by rw [hW1];exact (Yak _ _ 7 _ _ _ h.cell).trans rfl
 have ho1:∀ k,k≠mb→W1.heap[k]? = w.heap[k]?:=fun k hk=>by rw [hW1];exact Below.heap_setCell _ _ _ _ hk
 have hb1:Below 0 w W1:=by rw [hW1];exact (Below.refl _ _).setCell (p:=⟨mb,7,none⟩) (by simp) _
 have HH:=Yh h
 have HOW:Hid (W1.ownsRow 0 152 9 (.slice p log.length cap) log.length (Ybf log)):=Yas h.lg (fun g hg=>ho1 g (fun e=>hvm (by rw [←e];exact hg)))
 have HM1:=Yh hm1
 have HO1:=Yh ho1
 have HB1:=Yh hb1
 have HW1:=Yh hW1
 have HZ1:=Yh hz1
 obtain ⟨i0,hi0,hx0,hx1,hx2⟩:=info_parts Yk0
 clear h hm1 ho1 hb1 hW1 hz1 hd
 go_enter func98,ntmps98
 go_wp2_with (first | (at_builtin;go_must (
  rw [←HW1.out,←HZ1.out];refine wpList_append_own_at _ rfl _ _ 69 rfl 0 152 i0 _ 9 96 underlying69 hi0 hx0 hx1 hx2 rfl (by decide) (.slice p log.length cap) log.length (Ybf log) rfl (HOW.out.alloc _) ⟨W1.heap.size,0,none⟩ 1 1 [.int .i64 5,.int .i64 0,.int .i64 0,.int .i64 0,.string ByteArray.empty,.bool false,.string ByteArray.empty,.bool false,.string ByteArray.empty] rfl rfl ?hnews ?h1 (by unfold maxLen;omega) (by omega) (by omega) ?_
  case hnews=>intro j u hu;rw [Ydg];exact Yaa (heap_alloc_new W1 _) ((Array.getElem?_toList (xs:=_) (i:=j)).symm.trans hu)
  case h1=>intro u hu;simp at hu;rcases hu with rfl | rfl | rfl | rfl | rfl | rfl | rfl <;> rfl
  intro v8 w8 ho8 hg8 hnil hat;obtain ⟨g8,c8',rfl⟩:=Ybn ho8 (by omega);have hat':(Value.slice p log.length cap).ownBlock=some g8∨g8=w.heap.size+1:=by
   rcases hat with h | h
   ·exact .inl (by rw [←h];rfl)
   ·refine .inr ?_
    have:=HZ1.out;simp [Value.ownBlock] at h;omega
  have hk8:∀ k,k<w.heap.size→k≠mb→(Value.slice p log.length cap).ownBlock≠some k→w8.heap[k]? = w.heap[k]?:=fun k h1 h2 h3=>by
   have hz:=HZ1.out;exact (hg8.block k (by simp;omega) (fun e=>h3 e.symm)).trans ((Below.heap_alloc W1 _ k (by omega)).trans (HO1.out k h2))
  have hm8:=(hg8.block mb (by have:=HZ1.out;simp;omega) (fun e=>hvm e.symm)).trans ((Below.heap_alloc W1 _ mb (by have:=HZ1.out;omega)).trans HM1.out);have e8:w8.cell? ⟨mb,8,none⟩=some (.slice p log.length cap):=Yaa hm8 rfl;have y8:=Yah 8 hm8;have hg8m:g8≠mb:=by
   rcases hat' with hat | hat
   ·exact fun e=>hvm (by rw [hat,e])
   ·omega
  have HFIN:=Yh (Ywg (n':={ n with actions:=n.actions+1 }) (w':=w8.setCell ⟨mb,8,none⟩ (.slice (some ⟨g8,0,none⟩) (log.length+1) c8')) (vl':=.slice (some ⟨g8,0,none⟩) (log.length+1) c8') (x:=⟨5,0,0,0,ByteArray.empty,false,ByteArray.empty,false,ByteArray.empty⟩) HH.out
   (by
    have hc:Ybf (log ++ [⟨5,0,0,0,ByteArray.empty,false,ByteArray.empty,false,ByteArray.empty⟩])=Ybf log ++ [.int .i64 5,.int .i64 0,.int .i64 0,.int .i64 0,.string ByteArray.empty,.bool false,.string ByteArray.empty,.bool false,.string ByteArray.empty]:=by simp [Ybf,Yac.cells]
    rw [hc,List.length_append];refine Yas ho8 (fun q hq=>?_);simp [Value.ownBlock] at hq;subst hq;exact Below.heap_setCell _ _ _ _ hg8m)
   ((Yak _ _ 8 _ _ _ hm8).trans rfl)
   (fun k h1 h2 h3=>(Below.heap_setCell _ _ _ _ h2).trans (hk8 k h1 h2 h3))
   (fun q hq=>by
    simp [Value.ownBlock] at hq;subst hq;rcases hat' with hat | hat
    ·exact .inl hat
    ·exact .inr (by omega))
   (by
    have hs:=hg8.size;have h1:=HB1.out.size;have:Below 0 w w8:=⟨hg8.os.trans HB1.out.os,hg8.tape.trans HB1.out.tape,hg8.output.trans HB1.out.output,by simp at hs;omega,fun k hk=>by omega⟩;exact this.setCell (p:=⟨mb,8,none⟩) (by simp) _))
  clear ho8 hg8 hnil hat hat' hk8 hm8)))
 go_ret
 have hfa:=HFIN.out
 exact ⟨rfl,_,hfa⟩
def Ygn (n:Ya0):Int:=if n.dead then 3 else if 120≤n.actions then 10 else 0
theorem Ywi (mb:Nat) (n:Ya0) (s:Ya4) (l:List (TxV×TxS)) (pairs other:Yaf) (log:List Yac) (w:World) (h:Yaq w mb n s l pairs other log) (he:Ygn n≠0):
 Calls prog 98 #[.pointer (some ⟨mb,0,none⟩)] w fun e w'=>e=.returned (.int .i64 (Ygn n))∧w=w':=by
 have c1:w.cell? ⟨mb,1,none⟩=some (.bool n.dead):=Yaa h.cell rfl
 have c7:w.cell? ⟨mb,7,none⟩=some (.int .i64 n.actions):=Yaa h.cell rfl
 clear h
 cases hd:n.dead with
 | true=>
  rw [hd] at c1;have HE:Hid (Ygn n=3):=by show _=_;simp [Ygn,hd]
  clear he;go_enter func98,ntmps98;go_wp2;go_ret;exact ⟨by rw [HE.out];rfl,rfl⟩
 | false=>
  rw [hd] at c1;by_cases ha:120≤n.actions
  ·have HE:Hid (Ygn n=10):=by show _=_;simp [Ygn,hd,ha]
   clear he;go_enter func98,ntmps98;go_wp2;go_ret;exact ⟨by rw [HE.out];rfl,rfl⟩
  ·exact absurd (by simp [Ygn,hd,ha]) he
def Ybu (ps:Yaf) (ws:Ycl):Yaf:=ws.foldl (fun q p=>Yaw q p.1 p.2.1 p.2.2) ps
theorem Yqm:∀ (ws:Ycl) (ps:Yaf),(Ybu ps ws).length≤ps.length+ws.length
 | [],ps=>by simp [Ybu]
 | p :: r,ps=>by
  have h1:=Yqm r (Yaw ps p.1 p.2.1 p.2.2);have h2:=Ym9 ps p.1 p.2.2 p.2.1;have h3:Ybu ps (p :: r)=Ybu (Yaw ps p.1 p.2.1 p.2.2) r:=rfl;rw [h3];simp only [List.length_cons];omega
theorem Yne (mb b o:Nat) (n:Ya0) (s:Ya4) (ps:Yaf) (vw:Value) (ws:Ycl) (w:World) (hm:w.heap[mb]? = some (.cells (Yc6 n s) 119 (0,0))) (hps:w.ownsRow 0 43 2 s.vp ps.length (Yad ps)) (hc:w.cell? ⟨b,o+3,none⟩=some vw) (hown:w.ownsRow 0 206 3 vw ws.length (Yco ws)) (hlp:ps.length≤10000) (hlw:ws.length≤10000):
 Calls prog 138 #[.pointer (some ⟨mb,0,none⟩),.pointer (some ⟨b,o,none⟩)] w fun e w'=>∃ v',e=.returned v'∧w'.ownsRow 0 43 2 v' (Ybu ps ws).length (Yad (Ybu ps ws))∧(v'=s.vp∨∀ g,v'.ownBlock=some g→w.heap.size≤g)∧Below w.heap.size w w':=by
 obtain ⟨vp,vo,vt,vl⟩:=s
 simp only at hps
 obtain ⟨pp,cp,rfl,_⟩:=Ya6 hps
 obtain ⟨p,cap,rfl,hmax⟩:=Ya6 hown
 clear hmax
 have hbw:b<w.heap.size:=World.block_lt_of_cell? w _ hc
 have hmw:mb<w.heap.size:=Yaj hm
 have c3:w.cell? ⟨mb,3,none⟩=some (.slice pp ps.length cp):=Yaa hm rfl
 have HC:=Yh hc
 have HO:=Yh hown
 have HP:=Yh hps
 clear hm hc hown hps
 go_enter func138,ntmps138
 go_wp2
 go_loopw [5,6] (fun u i wr=>∃ k:Nat,k≤ws.length∧i=.int .i64 k∧wr.ownsRow 0 43 2 u (Ybu ps (ws.take k)).length (Yad (Ybu ps (ws.take k)))∧(u=.slice pp ps.length cp∨∀ g,u.ownBlock=some g→w.heap.size≤g)∧Below w.heap.size w wr) (fun _ i _=>ws.length - (intOf i).toNat)
 case atStart=>exact ⟨0,by omega,rfl,HP.out,.inl rfl,Below.refl _ _⟩
 case round=>
  obtain ⟨k,hk,rfl,hrow,hor,hbr⟩:=hrel;have HB:=Yh hbr;have HR:=Yh hrow;have HOR:=Yh hor;have d3:wr.cell? ⟨b,o+3,none⟩=some (.slice p ws.length cap):=(hbr.cell hbw).trans HC.out;have hl:=Yqm (ws.take k) ps;have hl2:(ws.take k).length≤ws.length:=by rw [List.length_take];omega
  by_cases hlt:k<ws.length
  ·have hlt':(k:Int)<(ws.length:Int):=by omega
   have hwz:=hbr.size;have hpr:=Ybe HO.out hbr (fun g hg=>(HO.out.lt g hg).2);obtain ⟨gq,cap',he⟩:=Ybn hpr (by omega);simp only [Value.slice.injEq] at he;obtain ⟨rfl,-,rfl⟩:=he;obtain ⟨d0,d1,d2⟩:=Yiv ws k ws[k] (List.getElem?_eq_getElem hlt);have c0:=Yal hpr d0;have c1:=Yal hpr d1;have c2:=Yal hpr d2;have HS:Hid (Ybu ps (ws.take (k+1))=Yaw (Ybu ps (ws.take k)) ws[k].1 ws[k].2.1 ws[k].2.2):=by
    show _=_;rw [List.take_succ_eq_append_getElem hlt,Ybu,List.foldl_append];rfl
   have HL:Hid ((Ybu ps (ws.take k)).length≤50000):=by show _≤_;omega
   clear d0 d1 d2 hpr hrow hor hbr hl hl2;generalize Ybu ps (ws.take k)=M at HR HS HL;generalize ws[k]=pk at c0 c1 c2 HS;obtain ⟨k0,b0,v0⟩:=pk;simp only at c0 c1 c2 HS;go_wp2_with fail
   go_region_held3 (fun w'=>w'.cell? ⟨b,o+3,none⟩=some (.slice (some ⟨gq,0,none⟩) ws.length cap)∧w'.cell? ⟨gq,k*3,none⟩=some (.string k0)∧w'.cell? ⟨gq,k*3+1,none⟩=some (.bool b0)∧w'.cell? ⟨gq,k*3+2,none⟩=some (.string v0))
    (go_keep)
    (first
     | (go_at_call 134;go_must (
      refine (Yk4 0 _ M k0 b0 v0 wr.drew HR.out (by have:=HL.out;omega)).mono ?_;rintro e w2 ⟨v2,rfl,ho2,hb2⟩;have HR2:Hid (w2.ownsRow 0 43 2 v2 (Yaw M k0 b0 v0).length (Yad (Yaw M k0 b0 v0))):=Yfg ho2 (Nat.zero_le _);have HB2:Hid (Below w.heap.size w w2):=HB.out.trans ((Below.refl _ _).drew.trans (hb2.mono (by simp;omega)));have HN2:Hid (∀ g,v2.ownBlock=some g→w.heap.size≤g):=fun g hg=>by have:=(ho2.lt g hg).1;simp at this;omega
      have q3:w2.cell? ⟨b,o+3,none⟩=some (.slice (some ⟨gq,0,none⟩) ws.length cap):=(hb2.cell (by simp;omega)).trans d3;have q0:w2.cell? ⟨gq,k*3,none⟩=some (.string k0):=(hb2.cell (by simp;exact World.block_lt_of_cell? wr _ c0)).trans c0;have q1:w2.cell? ⟨gq,k*3+1,none⟩=some (.bool b0):=(hb2.cell (by simp;exact World.block_lt_of_cell? wr _ c0)).trans c1;have q2:w2.cell? ⟨gq,k*3+2,none⟩=some (.string v0):=(hb2.cell (by simp;exact World.block_lt_of_cell? wr _ c0)).trans c2;clear ho2 hb2)))
   go_wp2;exact ⟨⟨k+1,by omega,by simp,by rw [HS.out];exact HR2.out,.inr HN2.out,HB2.out⟩,by simp [intOf];omega⟩
  ·have hlt':¬(k:Int)<(ws.length:Int):=by omega
   have hkk:ws.take k=ws:=List.take_of_length_le (by omega);rw [hkk] at HR;clear hrow hor hbr;go_wp2;go_ret;exact ⟨_,rfl,HR.out,HOR.out,HB.out⟩
theorem Yld (l r:List (TxV×TxS)):Ya2 (l ++ r)=Ya2 l ++ Ya2 r:=by simp [Ya2]
theorem Ywj (l:List (TxV×TxS)) (i j:Nat) (u:Value) (h:(Ya2 (l.drop i))[j]? = some u) (hi:i≤l.length):(Ya2 l)[i*5+j]? = some u:=by
 have h1:Ya2 l=Ya2 (l.take i) ++ Ya2 (l.drop i):=by rw [←Yld,List.take_append_drop]
 have h2:(Ya2 (l.take i)).length=i*5:=by rw [Yk9,List.length_take];congr 1;omega
 rw [h1,List.getElem?_append_right (by omega),h2,Nat.add_sub_cancel_left];exact h
theorem Yqn (l:List (TxV×TxS)) (i j:Nat) (u:Value) (h:(Ya2 (l.take i))[j]? = some u):(Ya2 l)[j]? = some u:=by
 have h1:Ya2 l=Ya2 (l.take i) ++ Ya2 (l.drop i):=by rw [←Yld,List.take_append_drop]
 rw [h1,List.getElem?_append_left (List.getElem?_eq_some_iff.1 h).1];exact h
theorem Ynf (h:∀ p∈l,Yc9 w p):∀ u∈Ya2 l,u.oneCell'=true:=by
 intro u hu;simp only [Ya2,List.mem_flatMap] at hu;obtain ⟨p,hp,hu⟩:=hu;obtain ⟨a1,b1,e1,_⟩:=Ya6 (h p hp).1;obtain ⟨a2,b2,e2,_⟩:=Ya6 (h p hp).2.1;obtain ⟨a3,b3,e3,_⟩:=Ya6 (h p hp).2.2.1;simp only [Ye5,List.mem_cons,List.not_mem_nil,or_false] at hu;rcases hu with rfl | rfl | rfl | rfl | rfl
 ·rfl
 ·rfl
 ·rw [e1];rfl
 ·rw [e2];rfl
 ·rw [e3];rfl
theorem Yj1 (mb:Nat) (n:Ya0) (s:Ya4) (l:List (TxV×TxS)) (pairs other:Yaf) (log:List Yac) (i:Nat) (w:World) (h:Yaq w mb n s l pairs other log) (hi:i<l.length) (hll:l.length≤10):
 Calls prog 139 #[.pointer (some ⟨mb,0,none⟩),.int .i64 i] w fun e w'=>∃ v',e=.returned v'∧w'.ownsRow w.heap.size 200 5 v' (l.eraseIdx i).length (Ya2 (l.eraseIdx i))∧Below w.heap.size w w':=by
 obtain ⟨g,cap,cur,hvt,hcur,hcell,hog,hgm⟩:=h.openBlock (by omega)
 have c5:w.cell? ⟨mb,5,none⟩=some (.slice (some ⟨g,0,none⟩) l.length cap):=by rw [←hvt];exact Yaa h.cell rfl
 have hmw:mb<w.heap.size:=Yaj h.cell
 have hgw:g<w.heap.size:=Yaj hcur
 have hcap:l.length≤cap:=by
  rcases h.opn.2 with ⟨_,h0⟩ | ⟨g',cap',cur',h1,h2,h3,h4,h5,h6,h7⟩
  ·omega
  ·rw [hvt] at h1
   simp only [Value.slice.injEq] at h1;omega
 have HH:=Yh h
 have HG:Hid (w.heap[g]? = some (.cells cur 200 (0,0))∧(∀ (j:Nat) u,(Ya2 l)[j]? = some u→cur[j]? = some u)):=⟨hcur,hcell⟩
 have hi':(i:Int)<(l.length:Int):=by omega
 have HE:Hid (l.eraseIdx i=l.take i ++ l.drop (i+1)):=List.eraseIdx_eq_take_drop_succ l i
 obtain ⟨i0,hi0,hx0,hx1,hx2⟩:=info_parts Yqd
 have tok1:True:=trivial
 clear h hvt hcur hcell hog
 by_cases hcc:cap=i+1
 ·subst hcc
  have HD:Hid (l.drop (i+1)=[]):=List.drop_eq_nil_of_le (by omega);go_enter func139,ntmps139;go_wp2_with (first
   | (at_builtin;have _t:=tok1;go_must (
    refine wpList_append_own_at _ rfl _ _ 117 rfl w.heap.size 200 i0 _ 5 88 underlying117 hi0 hx0 hx1 hx2 rfl (by decide) (.slice none 0 0) 0 [] rfl (World.ownsRow_nil _ _ _ _) ⟨g,0,none⟩ i (i+1) (Ya2 (l.take i)) rfl ?hl ?hnews ?h1 (by unfold maxLen;omega) (by omega) (Nat.le_refl _) ?_
    case hl=>rw [Yk9,List.length_take];congr 1;omega
    case hnews=>intro j u hu;rw [Ydg];exact Yaa HG.out.1 (HG.out.2 j u (Yqn l i j u hu))
    case h1=>exact Ynf (fun p hp=>HH.out.txs p (List.mem_of_mem_take hp))
    intro v8 w8 ho8 hg8 hnil hat;have hb8:Below w.heap.size w w8:=⟨hg8.os,hg8.tape,hg8.output,hg8.size,fun k hk=>hg8.block k hk (by simp [Value.ownBlock])⟩;have HO8:Hid (w8.ownsRow w.heap.size 200 5 v8 i (Ya2 (l.take i))):=by
     have ho9:=ho8;rw [Nat.zero_add,List.nil_append] at ho9;exact ho9
    have HB8:=Yh hb8;have d5:w8.cell? ⟨mb,5,none⟩=some (.slice (some ⟨g,0,none⟩) l.length (i+1)):=(hb8.cell hmw).trans c5;obtain ⟨a8,k8,hv8,_⟩:=Ya6 HO8.out;subst hv8;clear ho8 hg8 hnil hat hb8 tok1))
   | (at_builtin;go_must (
    refine wpList_append_own_at _ rfl _ _ 117 rfl w.heap.size 200 i0 _ 5 88 underlying117 hi0 hx0 hx1 hx2 rfl (by decide) (.slice a8 i k8) i (Ya2 (l.take i)) rfl HO8.out ⟨g,0,none⟩ 0 0 [] rfl ?hl ?hnews ?h1 (by unfold maxLen;omega) (by omega) HB8.out.size ?_
    case hl=>rfl
    case hnews=>intro j u hu;simp at hu
    case h1=>intro u hu;simp at hu
    intro v9 w9 ho9 hg9 hnil hat;have HO9:Hid (w9.ownsRow w.heap.size 200 5 v9 (l.eraseIdx i).length (Ya2 (l.eraseIdx i))):=by
     show World.ownsRow _ _ _ _ _ _ _;rw [HE.out,HD.out,Yld,List.length_append,List.length_take,Nat.min_eq_left (by omega)];exact ho9
    have HB9:Hid (Below w.heap.size w w9):=by
     have hs:=hg9.size;have h1:=HB8.out.size;refine ⟨hg9.os.trans HB8.out.os,hg9.tape.trans HB8.out.tape,hg9.output.trans HB8.out.output,by omega,fun k hk=>(hg9.block k (by omega) (fun e=>?_)).trans (HB8.out.block k hk)⟩;have:=(HO8.out.lt k e.symm).1;omega
    clear ho9 hg9 hnil hat)))
  go_ret;exact ⟨_,rfl,HO9.out,HB9.out⟩
 ·have hlt:i+1<cap:=by omega
  go_enter func139,ntmps139;go_wp2_with (first
   | (at_builtin;have _t:=tok1;go_must (
    refine wpList_append_own_at _ rfl _ _ 117 rfl w.heap.size 200 i0 _ 5 88 underlying117 hi0 hx0 hx1 hx2 rfl (by decide) (.slice none 0 0) 0 [] rfl (World.ownsRow_nil _ _ _ _) ⟨g,0,none⟩ i cap (Ya2 (l.take i)) rfl ?hl ?hnews ?h1 (by unfold maxLen;omega) (by omega) (Nat.le_refl _) ?_
    case hl=>rw [Yk9,List.length_take];congr 1;omega
    case hnews=>intro j u hu;rw [Ydg];exact Yaa HG.out.1 (HG.out.2 j u (Yqn l i j u hu))
    case h1=>exact Ynf (fun p hp=>HH.out.txs p (List.mem_of_mem_take hp))
    intro v8 w8 ho8 hg8 hnil hat;have hb8:Below w.heap.size w w8:=⟨hg8.os,hg8.tape,hg8.output,hg8.size,fun k hk=>hg8.block k hk (by simp [Value.ownBlock])⟩;have HO8:Hid (w8.ownsRow w.heap.size 200 5 v8 i (Ya2 (l.take i))):=by
     have ho9:=ho8;rw [Nat.zero_add,List.nil_append] at ho9;exact ho9
    have HB8:=Yh hb8;have d5:w8.cell? ⟨mb,5,none⟩=some (.slice (some ⟨g,0,none⟩) l.length cap):=(hb8.cell hmw).trans c5;obtain ⟨a8,k8,hv8,_⟩:=Ya6 HO8.out;subst hv8;clear ho8 hg8 hnil hat hb8 tok1))
   | (at_builtin;go_must (
    refine wpList_append_own_at _ rfl _ _ 117 rfl w.heap.size 200 i0 _ 5 88 underlying117 hi0 hx0 hx1 hx2 rfl (by decide) (.slice a8 i k8) i (Ya2 (l.take i)) rfl HO8.out ⟨g,(i+1)*5,none⟩ (l.length - (i+1)) (cap - (i+1)) (Ya2 (l.drop (i+1))) rfl ?hl ?hnews ?h1 (by unfold maxLen;omega) (by omega) HB8.out.size ?_
    case hl=>rw [Yk9,List.length_drop]
    case hnews=>
     intro j u hu;have hadd:(⟨g,(i+1)*5,none⟩:Addr).add j=⟨g,(i+1)*5+j,none⟩:=by unfold Addr.add;split <;> simp_all
     rw [hadd];exact Yaa ((HB8.out.block g hgw).trans HG.out.1) (HG.out.2 _ u (Ywj l (i+1) j u hu (by omega)))
    case h1=>exact Ynf (fun p hp=>HH.out.txs p (List.mem_of_mem_drop hp))
    intro v9 w9 ho9 hg9 hnil hat;have HO9:Hid (w9.ownsRow w.heap.size 200 5 v9 (l.eraseIdx i).length (Ya2 (l.eraseIdx i))):=by
     show World.ownsRow _ _ _ _ _ _ _;rw [HE.out,Yld,List.length_append,List.length_take,List.length_drop,Nat.min_eq_left (by omega)];exact ho9
    have HB9:Hid (Below w.heap.size w w9):=by
     have hs:=hg9.size;have h1:=HB8.out.size;refine ⟨hg9.os.trans HB8.out.os,hg9.tape.trans HB8.out.tape,hg9.output.trans HB8.out.output,by omega,fun k hk=>(hg9.block k (by omega) (fun e=>?_)).trans (HB8.out.block k hk)⟩;have:=(HO8.out.lt k e.symm).1;omega
    clear ho9 hg9 hnil hat)))
  go_ret;exact ⟨_,rfl,HO9.out,HB9.out⟩
def Ybs.past (i:Nat):Ybs→Ybs
 | Sum.inl ()=>.mod
 | Sum.inr (Sum.inl ())=>.opn
 | Sum.inr (Sum.inr (Sum.inl ()))=>.lg
 | Sum.inr (Sum.inr (Sum.inr (Sum.inl j)))=>.rd (if j<i then j else j+1)
 | Sum.inr (Sum.inr (Sum.inr (Sum.inr (Sum.inl j))))=>.wr (if j<i then j else j+1)
 | Sum.inr (Sum.inr (Sum.inr (Sum.inr (Sum.inr j))))=>.up (if j<i then j else j+1)
theorem Ybs.past_inj (i:Nat):∀ a b:Ybs,a.past i=b.past i→a=b:=by
 have key:∀ x y:Nat,(if x<i then x else x+1)=(if y<i then y else y+1)→x=y:=fun x y h=>by
  split at h <;> split at h <;> omega
 intro a b h
 cases a using Ybs.elim <;> cases b using Ybs.elim <;> first | rfl | (simp only [Ybs.past,Sum.inr.injEq,Sum.inl.injEq,reduceCtorEq] at h ⊢ <;> exact key _ _ h) | (simp [Ybs.past] at h)
theorem Ywk (mb:Nat) (s s':Ya4) (l:List (TxV×TxS)) (i:Nat) (hl:s'.vl=s.vl):∀ a:Ybs,a≠.opn→Yai mb s' (l.eraseIdx i) a=Yai mb s l (a.past i):=by
 have key:∀ j:Nat,(l.eraseIdx i)[j]? = l[if j<i then j else j+1]?:=fun j=>by
  rw [List.getElem?_eraseIdx];split <;> rfl
 intro a ha
 cases a using Ybs.elim <;> simp only [Yai,Ybs.past,key,hl]
 exact absurd rfl ha
theorem Yj2 {vt':Value} (h:Yaq w mb n s l pairs other log)
 (hm:w'.heap[mb]? = some (.cells (Yc6 n { s with vp:=vp',vt:=vt' }) 119 (0,0))) (hk:∀ k,k<w.heap.size→k≠mb→w'.heap[k]? = w.heap[k]?)
 (hp:w'.ownsRow 0 43 2 vp' pairs'.length (Yad pairs')) (hpn:vp'=s.vp∨∀ g,vp'.ownBlock=some g→w.heap.size≤g)
 (ht:w'.ownsRow w.heap.size 200 5 vt' (l.eraseIdx i).length (Ya2 (l.eraseIdx i))) (hsep:∀ g,vp'.ownBlock=some g→w.heap.size≤g→vt'.ownBlock≠some g) (hb:Below 0 w w'):
 Yaq w' mb n { s with vp:=vp',vt:=vt' } (l.eraseIdx i) pairs' other log∧Ya9 w w' mb s { s with vp:=vp',vt:=vt' } l (l.eraseIdx i):=by
 have key:∀ a k,a≠.mod→Yai mb s l a=some k→w'.heap[k]? = w.heap[k]?:=fun a k h1 hb=>
  hk k (h.lt a k hb) (fun e=>h1 (h.apart a .mod k hb (by simp [Yai,e])))
 have old:∀ a k,a≠.opn→Yai mb { s with vp:=vp',vt:=vt' } (l.eraseIdx i) a=some k→Yai mb s l (a.past i)=some k:=fun a k ha hb=>by
  rwa [Ywk mb s { s with vp:=vp',vt:=vt' } l i rfl a ha] at hb
 have new:∀ k,Yai mb { s with vp:=vp',vt:=vt' } (l.eraseIdx i) .opn=some k→w.heap.size≤k:=fun k hb=>(ht.lt k hb).1
 refine ⟨⟨hm,Yfg ht (Nat.zero_le _),fun q hq=>?_,hp,?_,Yas h.lg (fun k hb=>key .lg k (by simp) hb),fun a b k ha hb=>?_,fun a k ha=>?_⟩,⟨fun k h1 hno=>hk k h1 (fun e=>hno .mod (by simp [Yai,e])),fun a k ha=>?_,hb,fun k hk=>?_⟩⟩
 ·have hq':=List.mem_of_mem_eraseIdx hq
  obtain ⟨j,hj⟩:=List.getElem?_of_mem hq';refine (h.txs q hq').off fun k hk=>?_
  rcases hk with hk | hk | hk
  ·exact key (.rd j) k (by simp) (by simp [Yai,hj,hk])
  ·exact key (.wr j) k (by simp) (by simp [Yai,hj,hk])
  ·exact key (.up j) k (by simp) (by simp [Yai,hj,hk])
 ·exact Yas h.oth fun g hg=>hk g (h.oth.lt g hg).2 (fun e=>(h.imm .mod mb rfl).2 (by rw [←e];exact hg))
 ·by_cases h1:a=.opn
  ·by_cases h2:b=.opn
   ·rw [h1,h2]
   ·subst h1
    have:=new k ha;have:=h.lt _ k (old b k h2 hb);omega
  ·by_cases h2:b=.opn
   ·subst h2
    have:=new k hb;have:=h.lt _ k (old a k h1 ha);omega
   ·exact Ybs.past_inj i a b (h.apart _ _ k (old a k h1 ha) (old b k h2 hb))
 ·by_cases h1:a=.opn
  ·subst h1
   have hn:=new k ha;refine ⟨fun e=>hsep k e hn ha,fun e=>?_⟩;have:=(h.oth.lt k e).2;omega
  ·have ho:=old a k h1 ha
   have:=h.lt _ k ho;refine ⟨fun e=>?_,(h.imm _ k ho).2⟩;rcases hpn with rfl | hpn
   ·exact (h.imm _ k ho).1 e
   ·have:=hpn k e
    omega
 ·by_cases h1:a=.opn
  ·subst h1
   exact .inr (new k ha)
  ·exact .inl ⟨_,old a k h1 ha⟩
 ·rcases hk with hk | hk
  ·rcases hpn with rfl | hpn
   ·exact .inl (.inl hk)
   ·exact .inr (hpn k hk)
  ·exact .inl (.inr hk)
theorem Yng (h:Yaq w mb n s l pairs other log)
 (hm:w'.heap[mb]? = some (.cells (Yc6 n { s with vp:=vp' }) 119 (0,0))) (hk:∀ k,k<w.heap.size→k≠mb→w'.heap[k]? = w.heap[k]?)
 (hp:w'.ownsRow 0 43 2 vp' pairs'.length (Yad pairs')) (hpn:vp'=s.vp∨∀ g,vp'.ownBlock=some g→w.heap.size≤g) (hb:Below 0 w w'):
 Yaq w' mb n { s with vp:=vp' } l pairs' other log∧Ya9 w w' mb s { s with vp:=vp' } l l:=by
 have same:∀ a,Yai mb { s with vp:=vp' } l a=Yai mb s l a:=fun a=>by cases a using Ybs.elim <;> rfl
 have key:∀ a k,a≠.mod→Yai mb s l a=some k→w'.heap[k]? = w.heap[k]?:=fun a k h1 hb=>
  hk k (h.lt a k hb) (fun e=>h1 (h.apart a .mod k hb (by simp [Yai,e])))
 refine ⟨⟨hm,Yas h.opn (fun k hb=>key .opn k (by simp) hb),fun q hq=>?_,hp,?_,Yas h.lg (fun k hb=>key .lg k (by simp) hb),fun a b k ha hb=>?_,fun a k ha=>?_⟩,⟨fun k h1 hno=>hk k h1 (fun e=>hno .mod (by simp [Yai,e])),fun a k ha=>.inl ⟨a,by rw [←same a];exact ha⟩,hb,fun k hk=>hk.elim (fun h1=>hpn.elim (fun e=>.inl (.inl (by rw [←e];exact h1))) (fun h2=>.inr (h2 k h1))) (fun h1=>.inl (.inr h1))⟩⟩
 ·obtain ⟨j,hj⟩:=List.getElem?_of_mem hq
  refine (h.txs q hq).off fun k hk=>?_
  rcases hk with hk | hk | hk
  ·exact key (.rd j) k (by simp) (by simp [Yai,hj,hk])
  ·exact key (.wr j) k (by simp) (by simp [Yai,hj,hk])
  ·exact key (.up j) k (by simp) (by simp [Yai,hj,hk])
 ·exact Yas h.oth fun g hg=>hk g (h.oth.lt g hg).2 (fun e=>(h.imm .mod mb rfl).2 (by rw [←e];exact hg))
 ·rw [same] at ha hb
  exact h.apart a b k ha hb
 ·rw [same] at ha
  refine ⟨fun e=>?_,(h.imm a k ha).2⟩;rcases hpn with rfl | hpn
  ·exact (h.imm a k ha).1 e
  ·have:=hpn k e
   have:=h.lt a k ha;omega
theorem Ywl (mb:Nat) (n:Ya0) (s:Ya4) (l:List (TxV×TxS)) (pairs other:Yaf) (log:List Yac) (t:Int) (i:Nat) (p:TxV×TxS) (w:World) (h:Yaq w mb n s l pairs other log) (hs:Yhd l pairs log) (hd:n.dead=false) (hf:Ya5 l t=some i) (hi:l[i]? = some p) (hw:p.1.writes=[]):
 Calls prog 96 #[.pointer (some ⟨mb,0,none⟩),.int .i64 t] w fun e w'=>e=.returned (.int .i64 0) ∧
  ∃ vp' vt',Yaq w' mb n { s with vp:=vp',vt:=vt' } (l.eraseIdx i) (Ybu pairs p.1.writes) other log∧Ya9 w w' mb s { s with vp:=vp',vt:=vt' } l (l.eraseIdx i):=by
 have hil:i<l.length:=(List.getElem?_eq_some_iff.1 hi).1
 have hil':(i:Int)<(l.length:Int):=by omega
 have HH:=Yh h
 have HS:=Yh hs
 have HF:Hid (Ye7 (Ya5 l t)=(i:Int)):=by show _=_;rw [hf];rfl
 obtain ⟨g,cap,cur,hvt,hcur,hcell,hog,hgm⟩:=h.openBlock (by omega)
 have c1:w.cell? ⟨mb,1,none⟩=some (.bool false):=Yaa h.cell (by rw [←hd];rfl)
 have c5:w.cell? ⟨mb,5,none⟩=some (.slice (some ⟨g,0,none⟩) l.length cap):=by rw [←hvt];exact Yaa h.cell rfl
 have tw:=h.txs p (List.mem_of_getElem? hi)
 obtain ⟨aw,cw,hvw,_⟩:=Ya6 tw.2.1
 have c3:w.cell? ⟨g,i*5+3,none⟩=some (.slice aw 0 cw):=by
  have:=Yaa hcur (hcell _ _ (Yb4 l i p hi 3 _ rfl));rw [this,hvw,hw];rfl
 have HC3:Hid (w.cell? ⟨g,i*5+3,none⟩=some p.2.vw):=Yaa hcur (hcell _ _ (Yb4 l i p hi 3 _ rfl))
 have hmw:mb<w.heap.size:=h.lt .mod mb rfl
 have HW:=Yh hw
 clear h hs hvt hcur hcell hog tw hvw hf hw hd
 go_enter func96,ntmps96
 go_wp2_with (first
  | (go_at_call 133;go_must (
   refine (Yer mb n s l t w HH.out.cell HH.out.opn (by have:=HS.out.opn;omega)).mono ?_;rw [HF.out];rintro e w' ⟨rfl,rfl⟩))
  | (go_at_call 138;go_must (
   refine (Yne mb g (i*5) n s pairs p.2.vw p.1.writes w HH.out.cell HH.out.prs HC3.out (HH.out.txs p (List.mem_of_getElem? hi)).2.1 (by have:=HS.out.prs;omega) (by rw [HW.out];simp)).mono ?_;rintro e w2 ⟨v2,rfl,ho2,hn2,hb2⟩;obtain ⟨a2,k2,rfl,_⟩:=Ya6 ho2;have HO2:=Yh ho2;have HN2:=Yh hn2;have HB2:=Yh hb2;have hm2:=(hb2.block mb hmw).trans HH.out.cell;have HM2:=Yh hm2;have e3:w2.cell? ⟨mb,3,none⟩=some s.vp:=Yaa hm2 rfl;have f3:=Yah 3 hm2;clear ho2 hn2 hb2 hm2))
  | (go_at_call 139;go_must (
   have hv:=Yng (w':=w2.setCell ⟨mb,3,none⟩ (.slice a2 (Ybu pairs p.1.writes).length k2)) (vp':=.slice a2 (Ybu pairs p.1.writes).length k2) (pairs':=Ybu pairs p.1.writes) HH.out ((Yak _ _ 3 _ _ _ HM2.out).trans rfl) (fun k h1 h2=>(Below.heap_setCell _ _ _ _ h2).trans (HB2.out.block k h1))
    (Yas HO2.out (fun k hk=>Below.heap_setCell _ _ _ _ (fun e=>by
     have e':k=mb:=e;rcases HN2.out with h1 | h1
     ·rw [h1,e'] at hk;exact (HH.out.imm .mod mb rfl).1 hk
     ·have:=h1 k hk;omega)))
    HN2.out ((HB2.out.mono (Nat.zero_le _)).setCell (p:=⟨mb,3,none⟩) (by simp) _)
   have HV:=Yh hv;have hlV:(w2.setCell ⟨mb,3,none⟩ (.slice a2 (Ybu pairs p.1.writes).length k2)).heap.size=w2.heap.size:=by simp
   have HZ:=Yh hlV;refine (Yj1 mb n _ l _ other log i _ hv.1 hil (by have:=HS.out.opn;omega)).mono ?_;rintro e w4 ⟨v4,rfl,ho4,hb4⟩;obtain ⟨a4,k4,rfl,_⟩:=Ya6 ho4;have hm4:=(hb4.block mb (by rw [hlV];have:=HB2.out.size;omega)).trans hv.1.cell;have e5:w4.cell? ⟨mb,5,none⟩=some s.vt:=Yaa hm4 rfl;have f5:=Yah 5 hm4;have hgn:∀ q,(Value.slice a4 (l.eraseIdx i).length k4).ownBlock=some q→q≠mb:=fun q hq e=>by
    have:=(ho4.lt q hq).1;rw [hlV] at this;have:=HB2.out.size;omega
   have hov:=Yj2 (i:=i) (w':=w4.setCell ⟨mb,5,none⟩ (.slice a4 (l.eraseIdx i).length k4)) (vp':=.slice a2 (Ybu pairs p.1.writes).length k2) (vt':=.slice a4 (l.eraseIdx i).length k4) (pairs':=Ybu pairs p.1.writes) hv.1 ((Yak _ _ 5 _ _ _ hm4).trans rfl) (fun k h1 h2=>(Below.heap_setCell _ _ _ _ h2).trans (hb4.block k h1))
    (Yas hv.1.prs (fun k hk=>(Below.heap_setCell _ _ _ _ (fun e=>(hv.1.imm .mod mb rfl).1 (by have e':k=mb:=e;rw [←e'];exact hk))).trans (hb4.block k (hv.1.prs.lt k hk).2)))
    (.inl rfl)
    (Yas ho4 (fun q hq=>Below.heap_setCell _ _ _ _ (hgn q hq)))
    (fun q h1 h2=>by have:=(hv.1.prs.lt q h1).2;omega)
    ((hb4.mono (Nat.zero_le _)).setCell (p:=⟨mb,5,none⟩) (by simp) _)
   have HFIN:=Yh (And.intro hov.1 (hv.2.trans hov.2));clear hv hlV ho4 hb4 hm4 hgn hov)))
 go_ret
 exact ⟨rfl,_,_,HFIN.out⟩
theorem Ywm (mb:Nat) (n:Ya0) (s:Ya4) (l:List (TxV×TxS)) (pairs other:Yaf) (log:List Yac) (t:Int) (i:Nat) (p:TxV×TxS) (w:World) (h:Yaq w mb n s l pairs other log) (hs:Yhd l pairs log) (hm:n.mode=0) (hd:n.dead=false) (hf:Ya5 l t=some i) (hi:l[i]? = some p) (hw:p.1.writes≠[]):
 Calls prog 96 #[.pointer (some ⟨mb,0,none⟩),.int .i64 t] w fun e w'=>e=.returned (.int .i64 0) ∧
  ∃ vp' vt' vl',Yaq w' mb n { s with vp:=vp',vt:=vt',vl:=vl' } (l.eraseIdx i) (Ybu pairs p.1.writes) other (log ++ [⟨3,p.1.id,p.1.last,0,ByteArray.empty,false,ByteArray.empty,false,ByteArray.empty⟩])∧Ya9 w w' mb s { s with vp:=vp',vt:=vt',vl:=vl' } l (l.eraseIdx i):=by
 have hil:i<l.length:=(List.getElem?_eq_some_iff.1 hi).1
 have hil':(i:Int)<(l.length:Int):=by omega
 have HH:=Yh h
 have HS:=Yh hs
 have HF:Hid (Ye7 (Ya5 l t)=(i:Int)):=by show _=_;rw [hf];rfl
 obtain ⟨g,cap,cur,hvt,hcur,hcell,hog,hgm⟩:=h.openBlock (by omega)
 have c0:w.cell? ⟨mb,0,none⟩=some (.int .i64 0):=Yaa h.cell (by rw [←hm];rfl)
 have c1:w.cell? ⟨mb,1,none⟩=some (.bool false):=Yaa h.cell (by rw [←hd];rfl)
 have c5:w.cell? ⟨mb,5,none⟩=some (.slice (some ⟨g,0,none⟩) l.length cap):=by rw [←hvt];exact Yaa h.cell rfl
 have tw:=h.txs p (List.mem_of_getElem? hi)
 obtain ⟨aw,cw,hvw,_⟩:=Ya6 tw.2.1
 have c3:w.cell? ⟨g,i*5+3,none⟩=some (.slice aw p.1.writes.length cw):=by
  have:=Yaa hcur (hcell _ _ (Yb4 l i p hi 3 _ rfl));rw [this,hvw]
 have hwl:0<p.1.writes.length:=by
  cases hq:p.1.writes with
  | nil=>exact absurd hq hw
  | cons=>simp
 have hwl':(0:Int)<(p.1.writes.length:Int):=by omega
 have HG:Hid (w.heap[g]? = some (.cells cur 200 (0,0))∧s.vt=.slice (some ⟨g,0,none⟩) l.length cap∧(∀ (j:Nat) u,(Ya2 l)[j]? = some u→cur[j]? = some u)∧Yai mb s l .opn=some g∧g≠mb):=⟨hcur,hvt,hcell,hog,hgm⟩
 have HVW:=Yh hvw
 have hmw:mb<w.heap.size:=h.lt .mod mb rfl
 have hgw:g<w.heap.size:=h.lt .opn g hog
 clear h hs hvt hcur hcell hog tw hvw hf hw hd hm hgm
 go_enter func96,ntmps96
 go_wp2_with (first
  | (go_at_call 133;go_must (
   refine (Yer mb n s l t w HH.out.cell HH.out.opn (by have:=HS.out.opn;omega)).mono ?_;rw [HF.out];rintro e w' ⟨rfl,rfl⟩))
  | (go_at_call 137;go_must (
   refine (Yhb mb g (i*5) n s cur log p.1.id p.1.last ⟨3,0,0,0,ByteArray.empty,false,ByteArray.empty,false,ByteArray.empty⟩ w HH.out.cell HG.out.1 (HG.out.2.2.1 _ _ (Yb4 l i p hi 0 _ rfl)) (HG.out.2.2.1 _ _ (Yb4 l i p hi 1 _ rfl)) HH.out.lg (by have:=HS.out.log;omega) (Ne.symm HG.out.2.2.2.2) (fun e=>?hlm) (fun e=>?hlo)).mono ?_
   case hlm=>have:=HH.out.apart .lg .mod mb e rfl;cases this
   case hlo=>have:=HH.out.apart .lg .opn g e HG.out.2.2.2.1;cases this
   rintro e w7 ⟨rfl,hna⟩;obtain ⟨vl',M7,S7⟩:=Yhc HH.out hi HG.out.2.1 HG.out.1 hna;have hi7:(l.set i (({ p.1 with last:=(log.length:Int)+1 },p.2):TxV×TxS))[i]? = some ({ p.1 with last:=(log.length:Int)+1 },p.2):=by rw [List.getElem?_set_self hil]
   obtain ⟨g',cap',cur',hvt',hcur',hcell',hog',hgm'⟩:=M7.openBlock (by rw [List.length_set];omega);obtain rfl:g=g':=by
    have h1:=HG.out.2.1;simp only at hvt';rw [hvt'] at h1;simp at h1;exact h1.1.symm
   have h73:=Yaa hcur' (hcell' _ _ (Yb4 _ i _ hi7 3 _ rfl));have HC7:=Yh h73;have HI7:=Yh hi7;have HT:=Yh M7;have HST:=Yh S7;have HMW:Hid (mb<w7.heap.size):=M7.lt .mod mb rfl;clear hna M7 S7 hi7 hvt' hcur' hcell' hog' hgm' h73))
  | (go_at_call 138;go_must (
   refine (Yne mb g (i*5) n ({ s with vl:=vl' }:Ya4) pairs p.2.vw p.1.writes w7 HT.out.cell HT.out.prs HC7.out (HT.out.txs _ (List.mem_of_getElem? HI7.out)).2.1 (by have:=HS.out.prs;omega) (by have:=(HS.out.wrs p (List.mem_of_getElem? hi)).1;omega)).mono ?_;rintro e w2 ⟨v2,rfl,ho2,hn2,hb2⟩;obtain ⟨a2,k2,rfl,_⟩:=Ya6 ho2;have HO2:=Yh ho2;have HN2:=Yh hn2;have HB2:=Yh hb2;have hm2:=(hb2.block mb HMW.out).trans HT.out.cell;have HM2:=Yh hm2;have e3:w2.cell? ⟨mb,3,none⟩=some s.vp:=Yaa hm2 rfl;have f3:=Yah 3 hm2;clear ho2 hn2 hb2 hm2))
  | (go_at_call 139;go_must (
   have hv:=Yng (w':=w2.setCell ⟨mb,3,none⟩ (.slice a2 (Ybu pairs p.1.writes).length k2)) (vp':=.slice a2 (Ybu pairs p.1.writes).length k2) (pairs':=Ybu pairs p.1.writes) HT.out ((Yak _ _ 3 _ _ _ HM2.out).trans rfl) (fun k h1 h2=>(Below.heap_setCell _ _ _ _ h2).trans (HB2.out.block k h1))
    (Yas HO2.out (fun k hk=>Below.heap_setCell _ _ _ _ (fun e=>by
     have e':k=mb:=e;rcases HN2.out with h1 | h1
     ·rw [h1,e'] at hk;exact (HT.out.imm .mod mb rfl).1 hk
     ·have:=h1 k hk;have:=HMW.out;omega)))
    HN2.out ((HB2.out.mono (Nat.zero_le _)).setCell (p:=⟨mb,3,none⟩) (by simp) _)
   have HV:=Yh hv;have hlV:(w2.setCell ⟨mb,3,none⟩ (.slice a2 (Ybu pairs p.1.writes).length k2)).heap.size=w2.heap.size:=by simp
   have HZ:=Yh hlV;refine (Yj1 mb n _ (l.set i (({ p.1 with last:=(log.length:Int)+1 },p.2):TxV×TxS)) _ other (log ++ [⟨3,p.1.id,p.1.last,0,ByteArray.empty,false,ByteArray.empty,false,ByteArray.empty⟩]) i _ hv.1 (by rw [List.length_set];exact hil) (by rw [List.length_set];have:=HS.out.opn;omega)).mono ?_;rintro e w4 ⟨v4,rfl,ho4,hb4⟩;obtain ⟨a4,k4,rfl,_⟩:=Ya6 ho4;have hm4:=(hb4.block mb (by rw [hlV];have:=HB2.out.size;have:=HMW.out;omega)).trans hv.1.cell;have e5:w4.cell? ⟨mb,5,none⟩=some s.vt:=Yaa hm4 rfl;have f5:=Yah 5 hm4;have hgn:∀ q,(Value.slice a4 ((l.set i (({ p.1 with last:=(log.length:Int)+1 },p.2):TxV×TxS)).eraseIdx i).length k4).ownBlock=some q→q≠mb:=fun q hq e=>by
    have:=(ho4.lt q hq).1;rw [hlV] at this;have:=HB2.out.size;have:=HMW.out;omega
   have hov:=Yj2 (i:=i) (w':=w4.setCell ⟨mb,5,none⟩ (.slice a4 ((l.set i (({ p.1 with last:=(log.length:Int)+1 },p.2):TxV×TxS)).eraseIdx i).length k4)) (vp':=.slice a2 (Ybu pairs p.1.writes).length k2) (vt':=.slice a4 ((l.set i (({ p.1 with last:=(log.length:Int)+1 },p.2):TxV×TxS)).eraseIdx i).length k4) (pairs':=Ybu pairs p.1.writes) hv.1 ((Yak _ _ 5 _ _ _ hm4).trans rfl) (fun k h1 h2=>(Below.heap_setCell _ _ _ _ h2).trans (hb4.block k h1))
    (Yas hv.1.prs (fun k hk=>(Below.heap_setCell _ _ _ _ (fun e=>(hv.1.imm .mod mb rfl).1 (by have e':k=mb:=e;rw [←e'];exact hk))).trans (hb4.block k (hv.1.prs.lt k hk).2)))
    (.inl rfl)
    (Yas ho4 (fun q hq=>Below.heap_setCell _ _ _ _ (hgn q hq)))
    (fun q h1 h2=>by have:=(hv.1.prs.lt q h1).2;omega)
    ((hb4.mono (Nat.zero_le _)).setCell (p:=⟨mb,5,none⟩) (by simp) _)
   have HFIN:=Yh (And.intro hov.1 ((HST.out.trans hv.2).trans hov.2));clear hv hlV ho4 hb4 hm4 hgn hov)))
 go_ret
 have hfa:=HFIN.out
 rw [List.eraseIdx_set_eq] at hfa
 refine ⟨rfl,?_⟩
 rw [List.eraseIdx_set_eq]
 exact ⟨_,_,_,hfa⟩
def Ydy (n:Ya0) (l:List (TxV×TxS)) (t:Int):Int:=if n.dead then 3 else if (Ya5 l t).isNone then 5 else 0
theorem Yqo (o:Option Nat):Ye7 o<0↔o.isNone=true:=by
 cases o with
 | none=>simp [Ye7]
 | some i=>simp [Ye7]
theorem Ywn (mb:Nat) (n:Ya0) (s:Ya4) (l:List (TxV×TxS)) (pairs other:Yaf) (log:List Yac) (t:Int) (w:World) (h:Yaq w mb n s l pairs other log) (hll:l.length≤10) (he:Ydy n l t≠0):
 Calls prog 96 #[.pointer (some ⟨mb,0,none⟩),.int .i64 t] w fun e w'=>e=.returned (.int .i64 (Ydy n l t))∧w=w':=by
 have HH:=Yh h
 have c1:w.cell? ⟨mb,1,none⟩=some (.bool n.dead):=Yaa h.cell rfl
 clear h
 cases hd:n.dead with
 | true=>
  rw [hd] at c1;have HE:Hid (Ydy n l t=3):=by show _=_;simp [Ydy,hd]
  clear he hd;go_enter func96,ntmps96;go_wp2_with (first
   | (go_at_call 133;go_must (
    refine (Yer mb n s l t w HH.out.cell HH.out.opn (by omega)).mono ?_;rintro e w' ⟨rfl,rfl⟩)))
  go_ret;exact ⟨by rw [HE.out];rfl,rfl⟩
 | false=>
  rw [hd] at c1;have hn:(Ya5 l t).isNone=true:=by
   cases hq:(Ya5 l t).isNone with
   | true=>rfl
   | false=>exact absurd (by simp [Ydy,hd,hq]) he
  have HE:Hid (Ydy n l t=5):=by show _=_;simp [Ydy,hd,hn]
  have hi:=(Yqo _).2 hn;clear he hd hn;go_enter func96,ntmps96;go_wp2_with (first
   | (go_at_call 133;go_must (
    refine (Yer mb n s l t w HH.out.cell HH.out.opn (by omega)).mono ?_;rintro e w' ⟨rfl,rfl⟩)))
  go_ret;exact ⟨by rw [HE.out];rfl,rfl⟩
theorem Ywo (mb:Nat) (n:Ya0) (s:Ya4) (l:List (TxV×TxS)) (pairs other:Yaf) (log:List Yac) (t:Int) (w:World) (h:Yaq w mb n s l pairs other log) (hll:l.length≤10) (he:Ydy n l t≠0):
 Calls prog 97 #[.pointer (some ⟨mb,0,none⟩),.int .i64 t] w fun e w'=>e=.returned (.int .i64 (Ydy n l t))∧w=w':=by
 have HH:=Yh h
 have c1:w.cell? ⟨mb,1,none⟩=some (.bool n.dead):=Yaa h.cell rfl
 clear h
 cases hd:n.dead with
 | true=>
  rw [hd] at c1;have HE:Hid (Ydy n l t=3):=by show _=_;simp [Ydy,hd]
  clear he hd;go_enter func97,ntmps97;go_wp2_with (first
   | (go_at_call 133;go_must (
    refine (Yer mb n s l t w HH.out.cell HH.out.opn (by omega)).mono ?_;rintro e w' ⟨rfl,rfl⟩)))
  go_ret;exact ⟨by rw [HE.out];rfl,rfl⟩
 | false=>
  rw [hd] at c1;have hn:(Ya5 l t).isNone=true:=by
   cases hq:(Ya5 l t).isNone with
   | true=>rfl
   | false=>exact absurd (by simp [Ydy,hd,hq]) he
  have HE:Hid (Ydy n l t=5):=by show _=_;simp [Ydy,hd,hn]
  have hi:=(Yqo _).2 hn;clear he hd hn;go_enter func97,ntmps97;go_wp2_with (first
   | (go_at_call 133;go_must (
    refine (Yer mb n s l t w HH.out.cell HH.out.opn (by omega)).mono ?_;rintro e w' ⟨rfl,rfl⟩)))
  go_ret;exact ⟨by rw [HE.out];rfl,rfl⟩
end Go.Proofs.YtihbngfbcnojcaaGreat
