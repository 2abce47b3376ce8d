import Derived.Test.YtihbngfbcnojcaaGreatActC02
import Derived.Deep.WholeRow
import Derived.WalkKit
import Derived.WalkSpells
import Derived.WalkLawsBesides
import Derived.Deep.DeepMust
import Derived.RegionTactic
import Derived.ChangeAlike
import Derived.BigRegion
import Derived.Defers
import Derived.Recover
import Derived.Laws.Pointers
import Derived.Test.YtihbngfbcnojcaaGreatProg
import Derived.Lib.Strings
import Derived.Sort.Walk0
import Derived.Deep.RegionHeld3
import Derived.Deep.RegionLaw
import Derived.Laws.ResultCell
set_option maxRecDepth 100000
set_option maxHeartbeats 8000000
namespace Go.Proofs.YtihbngfbcnojcaaGreat
open Go.RowKit Tryz
variable {ops:Array Oper} {a b key:ByteArray} {Q:Exit→Act→World→Prop} {xs:List Value} {base cap g i j k n size:Nat} {o:Oper} {e t:TypeId} {v:Value} {w w':World} {ps:Yaf}
def Ycg (C:Array Value):Nat→List Value→Array Value
 | _,[]=>C
 | o,v :: r=>Ycg (C.setIfInBounds o v) (o+1) r
theorem Yip:∀ (S:List Value) (C:Array Value) (o:Nat),(Ycg C o S).size=C.size
 | [],_,_=>rfl
 | v :: r,C,o=>by rw [Ycg,Yip r];simp
theorem Yhx:∀ (S:List Value) (w:World) (b o:Nat) (C:Array Value) (t:TypeId),w.heap[b]? = some (.cells C t (0,0))→(w.setCells b o S).heap[b]? = some (.cells (Ycg C o S) t (0,0))
 | [],_,_,_,_,_,h=>h
 | v :: r,w,b,o,C,t,h=>Yhx r _ b (o+1) _ t (Yak w b o v C t h)
theorem Ygj:∀ (S:List Value) (w:World) (b o k:Nat),k≠b→(w.setCells b o S).heap[k]? = w.heap[k]?
 | [],_,_,_,_,_=>rfl
 | _ :: r,_,b,o,k,h=>(Ygj r _ b (o+1) k h).trans (Below.heap_setCell _ _ _ _ h)
theorem Ypp:∀ (S:List Value) (w0 w:World) (b o:Nat),Below 0 w0 w→Below 0 w0 (w.setCells b o S)
 | [],_,_,_,_,h=>h
 | _ :: r,w0,w,b,o,h=>Ypp r w0 _ b (o+1) (h.setCell (p:=⟨b,o,none⟩) (by simp) _)
def Ybp (D:Array Value) (ws:List (Nat×List Value)):Array Value:=ws.foldl (fun D p=>Ycg D (p.1*64) p.2) D
theorem Ypq (D:Array Value) (ws:List (Nat×List Value)) (p:Nat×List Value):Ybp D (ws ++ [p])=Ycg (Ybp D ws) (p.1*64) p.2:=by simp [Ybp,List.foldl_append]
theorem Yhy (ws:List (Nat×List Value)):∀ D:Array Value,(Ybp D ws).size=D.size:=by
 induction ws with
 | nil=>intro D;rfl
 | cons p r ih=>intro D;show (Ybp (Ycg D _ _) r).size=_;rw [ih,Yip]
def Ycs (ws:List (Nat×List Value)):List Value:=ws.flatMap fun p=>Value.int .i64 (p.1:Int) :: p.2
theorem Ymr:∀ (ws:List (Nat×List Value)),(∀ p∈ws,p.2.length=64)→∀ (k:Nat) (p:Nat×List Value),ws[k]? = some p→∀ j u,(Value.int .i64 (p.1:Int) :: p.2)[j]? = some u→(Ycs ws)[k*65+j]? = some u
 | [],_,k,p,h=>by simp at h
 | q :: r,hl,0,p,h=>by
  intro j u hu;simp at h;subst h;have hj:=(List.getElem?_eq_some_iff.1 hu).1;rw [Ycs,List.flatMap_cons,List.getElem?_append_left (by simpa using hj)];simpa using hu
 | q :: r,hl,k+1,p,h=>by
  intro j u hu;have h64:=hl q (by simp);have:=Ymr r (fun p hp=>hl p (by simp [hp])) k p (by simpa using h) j u hu;rw [Ycs,List.flatMap_cons,List.getElem?_append_right (by simp [h64];omega)];simp only [List.length_cons,h64];rw [show (k+1)*65+j - (64+1)=k*65+j by omega];exact this
def Ydn (ws:List (Nat×List Value)):Prop:=∀ p∈ws,p.1<434∧p.2.length=64∧∀ u∈p.2,u.oneCell'=true
theorem Yms:(prog.info? 143).map (·.size)=some 65:=by kernel_rfl
theorem Yjw:(prog.info? 98).map (·.size)=some 64:=by kernel_rfl
theorem Ymt {P:Program} {a:Act} {K:Act→World→Prop} {E:Prop} (hgd:o.guard=none) (ty:TypeId) (x y:Operand) (ho:o.op=.store ty x y)
 (b off:Nat) (cells:Array Value) (hx:a.eval x=.pointer (some ⟨b,off,none⟩)) (hy:a.eval y=.agg cells)
 (ht:w.there b off cells.size) (hi:(P.info? ty).map (·.size)=some cells.size) (h1:cells.all (·.oneCell')=true) (h:K (a.put o.dst undef) (w.setCells b off cells.toList)):
 if Region.wanted o (yielded ops a.tmps)=true then Oper.wp P o a w K Q else E:=by
 have hw:Region.wanted o (yielded ops a.tmps)=true:=by simp [Region.wanted,hgd]
 rw [if_pos hw]
 exact wp_store_mid ty x y ho b off cells hx hy ht hi h1 h
theorem Yiq {b:Nat} {C:Array Value} (h:w.heap[b]? = some (.cells C t (0,0))) (o n:Nat) (hn:o+n≤C.size):w.there b o n:=fun j hj=>
 ⟨by rw [Yaa h (Array.getElem?_eq_getElem (show o+j<C.size by omega))];rfl,Yah _ h⟩
theorem Ypr {ws:List (Nat×List Value)} {D:Array Value} {wr w0:World} {db a:Nat} {S:List Value} (hlt:k<ws.length) (hX:Ybp D (ws.take (k+1))=Ycg (Ybp D (ws.take k)) (a*64) S)
 (hB0:Below wr.heap.size wr w0) (hd0:w0.heap[db]? = some (.cells (Ybp D (ws.take k)) 103 (0,0))) (hO:∀ j,j<w.heap.size→j≠db→wr.heap[j]? = w.heap[j]?) (hB:Below 0 w wr):
 (∃ k1:Nat,k1≤ws.length∧Value.int .i64 ((k:Int)+1)=Value.int .i64 (k1:Int)∧(w0.drew.setCells db (a*64) S).heap[db]? = some (.cells (Ybp D (ws.take k1)) 103 (0,0)) ∧
  (∀ j,j<w.heap.size→j≠db→(w0.drew.setCells db (a*64) S).heap[j]? = w.heap[j]?)∧Below 0 w (w0.drew.setCells db (a*64) S)) ∧
 ws.length - (intOf (.int .i64 ((k:Int)+1))).toNat<ws.length - (intOf (.int .i64 (k:Int))).toNat:=by
 have hs:=hB.size
 refine ⟨⟨k+1,by omega,by simp,?_,fun j h1 h2=>?_,?_⟩,?_⟩
 ·rw [hX];exact Yhx S w0.drew db (a*64) _ _ hd0
 ·rw [Ygj S w0.drew db (a*64) j h2]
  exact (hB0.block j (by omega)).trans (hO j h1 h2)
 ·refine Ypp S w w0.drew db (a*64) ?_
  exact ⟨hB0.os.trans hB.os,hB0.tape.trans hB.tape,hB0.output.trans hB.output,by have:=hB0.size;simp;omega,fun k hk=>by omega⟩
 ·simp [intOf];omega
theorem Ymu (db base g cap:Nat) (ws:List (Nat×List Value)) (D cur:Array Value) (w:World) (hdb:db<base) (hb:base≤g) (hok:Ydn ws) (hn:ws.length≤100000)
 (hD:w.heap[db]? = some (.cells D 103 (0,0))) (hDz:D.size=27779) (hDv:D[27776]? = some (.slice (some ⟨g,0,none⟩) ws.length cap)) (hg:w.heap[g]? = some (.cells cur 143 (0,0))) (hcur:∀ (j:Nat) u,(Ycs ws)[j]? = some u→cur[j]? = some u):
 Calls prog 117 #[.pointer (some ⟨db,0,none⟩)] w fun e w'=>e=.returned (.tuple #[])∧w'.heap[db]? = some (.cells ((Ybp D ws).setIfInBounds 27776 (.slice none 0 0)) 103 (0,0))∧(∀ k,k<w.heap.size→k≠db→w'.heap[k]? = w.heap[k]?)∧Below 0 w w':=by
 have hc:w.cell? ⟨db,27776,none⟩=some (.slice (some ⟨g,0,none⟩) ws.length cap):=Yaa hD hDv
 have hgw:g<w.heap.size:=Yaj hg
 have hdw:db<w.heap.size:=Yaj hD
 go_enter func117,ntmps117
 go_wp2
 go_loopw [9] (fun i wr=>∃ k:Nat,k≤ws.length∧i=.int .i64 k∧wr.heap[db]? = some (.cells (Ybp D (ws.take k)) 103 (0,0))∧(∀ j,j<w.heap.size→j≠db→wr.heap[j]? = w.heap[j]?)∧Below 0 w wr) (fun i _=>ws.length - (intOf i).toNat)
 case atStart=>exact ⟨0,by omega,rfl,by simpa [Ybp] using hD,fun _ _ _=>rfl,Below.refl _ _⟩
 case round=>
  obtain ⟨k,hk,rfl,hd,ho,hb0⟩:=hrel;have HD:=Yh hd;have HO:=Yh ho;have HB:=Yh hb0;by_cases hlt:k<ws.length
  ·have hlt':(k:Int)<(ws.length:Int):=by omega
   obtain ⟨h434,h64,hone⟩:=hok ws[k] (List.getElem_mem hlt);have hr:wr.rangeAt g (k*65) (Value.int .i64 ((ws[k]).1:Int) :: (ws[k]).2):=fun j u hu=>by
    have hgr:wr.heap[g]? = some (.cells cur 143 (0,0)):=(ho g hgw (by omega)).trans hg;exact Yaa hgr (hcur _ _ (Ymr ws (fun p hp=>(hok p hp).2.1) k _ (List.getElem?_eq_getElem hlt) j u hu))
   have hnext:ws.take (k+1)=ws.take k ++ [ws[k]]:=by simp
   have HX:Hid (wr.heap[db]? = some (.cells (Ybp D (ws.take k)) 103 (0,0))∧(Ybp D (ws.take k)).size=27779∧Ybp D (ws.take (k+1))=Ycg (Ybp D (ws.take k)) (ws[k].1*64) ws[k].2):=⟨hd,by rw [Yhy,hDz],by rw [hnext,Ypq]⟩;have hdr:db<wr.heap.size:=Yaj hd;generalize ws[k]=p at h434 h64 hone hr HX;obtain ⟨a,S⟩:=p;simp only at h434 h64 hone hr HX;have hC:(Value.int .i64 (a:Int) :: S).length=65:=by simp [h64]
   have hi149:(prog.info? 143).map (·.size)=some (Value.int .i64 (a:Int) :: S).length:=by rw [hC];exact Yms
   have hi107:(prog.info? 98).map (·.size)=some S.length:=by rw [h64];exact Yjw
   have hC1:∀ u∈Value.int .i64 (a:Int) :: S,u.oneCell'=true:=fun u hu=>(List.mem_cons.1 hu).elim (fun h=>by rw [h];rfl) (fun h=>hone u h)
   have HC1:=Yh hC1;have HS1:=Yh hone;clear hd ho hb0 hnext hC1 hone;go_wp2_with (first
    | (refine wpList_load_mid rfl 143 (.tmp 11) rfl g (k*65) (by rfl) _ _ hr underlying143 rfl hi149 ?_)
    | (
     refine wpList_store_row rfl 143 (.tmp 3) (.tmp 12) rfl wr.heap.size (Value.int .i64 (a:Int) :: S).toArray (by rfl) (by rfl) 143 _ (heap_alloc_new _ _) (by simpa using hi149) ?ho (all_oneCell_toArray HC1.out) ?_
     case ho=>rw [Ymm];simp [h64]
     rw [World.setRow_alloc_new]))
   have hB0:Below wr.heap.size wr (wr.alloc (.cells (Value.int .i64 (a:Int) :: S).toArray 143)):=(Below.refl _ _).alloc (Nat.le_refl _) _;have hn0:(wr.alloc (.cells (Value.int .i64 (a:Int) :: S).toArray 143)).heap[wr.heap.size]? = some (.cells (Value.int .i64 (a:Int) :: S).toArray 143 (0,0)):=heap_alloc_new wr _;have hd0:(wr.alloc (.cells (Value.int .i64 (a:Int) :: S).toArray 143)).heap[db]? = some (.cells (Ybp D (ws.take k)) 103 (0,0)):=(hB0.block db hdr).trans HD.out;revert hB0 hn0 hd0;generalize wr.alloc (.cells (Value.int .i64 (a:Int) :: S).toArray 143)=w0;intro hB0 hn0 hd0;have c0:w0.cell? ⟨wr.heap.size,0,none⟩=some (.int .i64 (a:Int)):=Yaa hn0 (by rfl);have hr1:w0.rangeAt wr.heap.size 1 S:=fun j u hu=>Yaa hn0 (by rw [Nat.add_comm];simpa using hu)
   have HT:Hid (w0.there db (a*64) S.toArray.size):=Yiq hd0 _ _ (by have:=HX.out.2.1;simp [h64];omega);have HB0:=Yh hB0;have HD0:=Yh hd0;have ha0:(a:Int)<434:=by omega
   clear hB0 hn0 hd0 hr hc hg hcur hok hD hDz hDv;refine wp_region_any (by kernel_rfl) ?_;change wpAny _ _ _ _ _ _ _ w0.drew;refine wpAny_take (i:=0) (v:=(Value.pointer (some ⟨db,0,none⟩))) rfl (by kernel_rfl) (by kernel_rfl) (by kernel_rfl) (fun _ _ _ h=>h) (Or.inl ⟨by rfl,?_⟩) ?_
   ·intro wz;go_simp
   refine wpAny_take (i:=1) (v:=(Value.pointer (some ⟨wr.heap.size,0,none⟩))) rfl (by kernel_rfl) (by kernel_rfl) (by kernel_rfl) (fun _ _ _ h=>h) (Or.inl ⟨by rfl,?_⟩) ?_
   ·intro wz;go_simp
   refine wpAny_take (i:=3) (v:=(Value.pointer (some ⟨wr.heap.size,1,none⟩))) rfl (by kernel_rfl) (by kernel_rfl) (by kernel_rfl) (fun _ _ _ h=>h) (Or.inl ⟨by rfl,?_⟩) ?_
   ·intro wz;go_simp
   refine wpAny_take (i:=5) (v:=(Value.pointer (some ⟨db,0,none⟩))) rfl (by kernel_rfl) (by kernel_rfl) (by kernel_rfl) (fun _ _ _ h=>h) (Or.inl ⟨by rfl,?_⟩) ?_
   ·intro wz;go_simp
   refine wpAny_take (i:=6) (v:=(Value.pointer (some ⟨db,0,none⟩))) rfl (by kernel_rfl) (by kernel_rfl) (by kernel_rfl) (fun _ _ _ h=>h) (Or.inl ⟨by rfl,?_⟩) ?_
   ·intro wz;go_simp
   refine wpAny_ready (rs:=[2,4]) (by kernel_rfl) (by simp) ?_;refine AllReady.cons rfl (fun K hK=>?_) (AllReady.cons rfl (fun K hK=>?_) AllReady.nil)
   ·go_simp
    refine hK _ _ ?_;clear hK K;refine wpAny_ready (rs:=[4]) (by kernel_rfl) (by simp) ?_;refine AllReady.cons rfl (fun K hK=>?_) AllReady.nil;refine Yio rfl 98 (.tmp 16) rfl wr.heap.size 1 (by rfl) S _ hr1 underlying98 rfl hi107 ?_;refine hK _ _ ?_;clear hK K;refine wpAny_ready (rs:=[7]) (by kernel_rfl) (by simp) ?_;refine AllReady.cons rfl (fun K hK=>?_) AllReady.nil;go_simp;refine hK _ _ ?_;clear hK K;refine wpAny_ready (rs:=[8]) (by kernel_rfl) (by simp) ?_;refine AllReady.cons rfl (fun K hK=>?_) AllReady.nil;refine Ymt rfl 98 (.tmp 20) (.tmp 17) rfl db (a*64) S.toArray (by rfl) (by rfl) HT.out (by simpa using hi107) (all_oneCell_toArray HS1.out) ?_;refine hK _ _ ?_;clear hK K;refine wpAny_done (by kernel_rfl) ?_ _;go_wp2;exact Ypr hlt HX.out.2.2 HB0.out HD0.out HO.out HB.out
   ·refine Yio rfl 98 (.tmp 16) rfl wr.heap.size 1 (by rfl) S _ hr1 underlying98 rfl hi107 ?_
    refine hK _ _ ?_;clear hK K;refine wpAny_ready (rs:=[2]) (by kernel_rfl) (by simp) ?_;refine AllReady.cons rfl (fun K hK=>?_) AllReady.nil;go_simp;refine hK _ _ ?_;clear hK K;refine wpAny_ready (rs:=[7]) (by kernel_rfl) (by simp) ?_;refine AllReady.cons rfl (fun K hK=>?_) AllReady.nil;go_simp;refine hK _ _ ?_;clear hK K;refine wpAny_ready (rs:=[8]) (by kernel_rfl) (by simp) ?_;refine AllReady.cons rfl (fun K hK=>?_) AllReady.nil;refine Ymt rfl 98 (.tmp 20) (.tmp 17) rfl db (a*64) S.toArray (by rfl) (by rfl) HT.out (by simpa using hi107) (all_oneCell_toArray HS1.out) ?_;refine hK _ _ ?_;clear hK K;refine wpAny_done (by kernel_rfl) ?_ _;go_wp2;exact Ypr hlt HX.out.2.2 HB0.out HD0.out HO.out HB.out
  ·have hlt':¬(k:Int)<(ws.length:Int):=by omega
   have f1:=Yah 27776 hd;have c1:∃ u,wr.cell? ⟨db,27776,none⟩=some u:=by
    have hs:27776<(Ybp D (ws.take k)).size:=by rw [Yhy];omega
    exact ⟨_,Yaa hd (Array.getElem?_eq_getElem hs)⟩
   obtain ⟨u1,c1⟩:=c1;have hkk:k=ws.length:=by omega
   clear hd ho hb0;go_wp2;go_end0;subst hkk;have e1:Ybp D (ws.take ws.length)=Ybp D ws:=by rw [List.take_length]
   rw [e1] at HD;exact ⟨rfl,Yak wr db 27776 _ _ _ HD.out,fun k h1 h2=>(Below.heap_setCell _ _ _ _ h2).trans (HO.out k h1 h2),HB.out.setCell (p:=⟨db,27776,none⟩) (by simp) _⟩
def Yei (log mode:Int):List Value:=be log 4 ++ be mode 1
theorem Yps (log mode:Int):(Yei log mode).length=5:=by simp [Yei,Yeq]
theorem Ypt (log mode:Int):∀ u∈Yei log mode,u.oneCell'=true:=by
 intro u hu;rcases List.mem_append.1 hu with h | h
 ·exact Ye3 _ _ u h
 ·exact Ye3 _ _ u h
theorem Ymv (w:World) (g:Nat) (old:Array Value) (t:TypeId) (S:List Value) (hg:w.heap[g]? = some (.cells old t (0,0))) (hl:old.size=S.length) (h1:∀ u∈S,u.oneCell'=true):
 Sem.run prog (storeCells ⟨g,0,none⟩ S) w=.ok () (w.setRow g S.toArray):=by
 have:=run_storeCells_from (P:=prog) g t S 0 old w hg (by omega) h1
 simpa using this
theorem Yvd (a b log mode:Int) (w:World) (ha:0≤a) (ha':a<4294967296) (hb:0≤b) (hb':b<4294967296) (hl:0≤log) (hl':log<4294967296) (hm:0≤mode) (hm':mode<256):
 Calls prog 123 #[.agg #[.int .u32 a,.int .u32 b],.agg #[.int .u32 log,.int .i64 mode]] w fun r w'=>r=.returned (.agg (Yam a b (Yei log mode)).toArray)∧Below w.heap.size w w':=by
 have HBL:Hid ((Yei log mode).length=5):=Yps log mode
 have hwl:IntKind.i64.wrap log=log:=by rw [IntKind.wrap_i64];omega
 have tok1:True:=trivial
 have hst:=Ykx (w:=w) (o1:=.cells #[.int .u32 a,.int .u32 b] 168) (o2:=.cells #[.int .u32 log,.int .i64 mode] 133) (o3:=.cells (List.replicate 64 (Value.int .u8 0)).toArray 98)
 have HST:=Yh hst
 clear hst
 go_enter func123,ntmps123
 go_wp2_with fail
 change Calls _ _ _ (((w.alloc (.cells #[.int .u32 a,.int .u32 b] 168)).alloc (.cells #[.int .u32 log,.int .i64 mode] 133)).alloc (.cells (List.replicate 64 (Value.int .u8 0)).toArray 98)) _
 revert HST
 generalize ((w.alloc (.cells #[.int .u32 a,.int .u32 b] 168)).alloc (.cells #[.int .u32 log,.int .i64 mode] 133)).alloc (.cells (List.replicate 64 (Value.int .u8 0)).toArray 98)=w0
 intro HST
 obtain ⟨hB0,hs0,hh0,hh1,hh2⟩:=HST.out
 have HB0:=Yh hB0
 have HH0:=Yh hh0
 have HH1:=Yh hh1
 have HH2:=Yh hh2
 have HS0:=Yh hs0
 clear hB0 hh0 hh1 hh2 hs0 HST
 refine (Yg6 (w.heap.size+3) _ 0 [] log 4 _ (World.ownsRow_nil _ _ _ _) (by have:=HS0.out;omega) (by omega) hl (by omega) (by omega)).mono ?_
 rintro r w1 ⟨v1,rfl,hown,hg⟩
 have HO1:=Yh hown
 have HB1:Hid (Below (w.heap.size+3) w0 w1):=hg.below (World.ownsRow_nil _ (w.heap.size+3) 5 1) (Nat.le_refl _) (by have:=HS0.out;omega)
 have HS1:Hid (w.heap.size+3≤w1.heap.size):=by have:=HB1.out.size;have:=HS0.out;show _≤_;omega
 have q1_0:w1.cell? ⟨w.heap.size,0,none⟩=some (.int .u32 a):=(HB1.out.cell (by simp)).trans (Yaa HH0.out rfl)
 have q1_1:w1.cell? ⟨w.heap.size,1,none⟩=some (.int .u32 b):=(HB1.out.cell (by simp)).trans (Yaa HH0.out rfl)
 have q1_2:w1.cell? ⟨w.heap.size+1,1,none⟩=some (.int .i64 mode):=(HB1.out.cell (by simp)).trans (Yaa HH1.out rfl)
 clear tok1 hown hg
 go_wp2
 have HM1:Hid (∀ u∈be log 4 ++ be mode 1,u.oneCell'=true):=Ypt log mode
 go_region_law (first
  | (go_simp;go_wp2_with (first
   | (go_at_call 169;go_must (
    refine (Yg6 (w.heap.size+3) _ 4 (be log 4) mode 1 w1.drew HO1.out (by have:=HS1.out;simp;omega) (by omega) hm (by omega) (by omega)).mono ?_;rintro r w2 ⟨v2,rfl,hown,hg⟩;have hB2:Below (w.heap.size+3) w0 w2:=HB1.out.trans ((Below.refl _ _).drew.trans (hg.below HO1.out (Nat.le_refl _) (by have:=HS1.out;simp;omega)));have HB2:=Yh hB2;have HS2:Hid (w.heap.size+3≤w2.heap.size):=by have:=HB2.out.size;have:=HS0.out;show _≤_;omega
    have q2_0:w2.cell? ⟨w.heap.size,0,none⟩=some (.int .u32 a):=(HB2.out.cell (by simp)).trans (Yaa HH0.out rfl);have q2_1:w2.cell? ⟨w.heap.size,1,none⟩=some (.int .u32 b):=(HB2.out.cell (by simp)).trans (Yaa HH0.out rfl);obtain ⟨g7,cap7,cur7,rfl,hg7b,hg7h,hc7,hcur⟩:=Yhw hown (by omega);have HG7:=Yh hg7h;have HC7:=Yh hcur;clear hg7b hg7h hc7 hcur hown hg hB2))
   | (go_at_call 167;go_must (
    refine (Ykz a b _ ha ha' hb hb' g7 5 cap7 (be log 4 ++ be mode 1) (Yaj HG7.out) HBL.out (by omega) (fun j u hu=>Yaa HG7.out (HC7.out j u hu)) HM1.out).mono ?_;rintro r w8 ⟨S,rfl,HSS,HSL,HS1',hb8⟩;have K1:Hid (w8.heap[w.heap.size+1+1]? = some (.cells (List.replicate 64 (Value.int .u8 0)).toArray 98)):=((HB2.out.trans (hb8.mono HS2.out)).block _ (by omega)).trans HH2.out;have HB8:Hid (Below (w.heap.size+3) w0 w8):=HB2.out.trans (hb8.mono HS2.out);have hSL:=HSL.out;have hrun:=Ymv w8 (w.heap.size+1+1) _ 98 S K1.out (by rw [List.size_toArray,HSL.out];rfl) HS1'.out;clear hb8 HB2 HS2 HG7 HC7 q2_0 q2_1)))))
 all_goals
  go_wp2;refine bodyPost_ret (v:=.agg S.toArray) ?_ rfl ⟨by rw [HSS.out];rfl,?_⟩
  ·exact results_cell_row Tryz.results123 _ _ (w.heap.size+1+1) 98 S.toArray (0,0) _ rfl (setRow_heap _ _ _ _ _ _ K1.out) underlying98 rfl (by rw [List.size_toArray,HSL.out];kernel_rfl)
  ·exact below_setRow (HB0.out.trans (HB8.out.mono (by omega))) (by omega) _
def Ybl (db:Nat) (start count turn:Int):Array Value:=#[.pointer (some ⟨db,0,none⟩),.int .u32 start,.int .u32 count,.int .i64 turn]
theorem Yk1 (w:World) (b j:Nat) (u:Value) (cs:Array Value) (t:TypeId) (h:w.heap[b]? = some (.cells cs t (0,0))):
 (w.setCell ⟨b,j,none⟩ u).heap[b]? = some (.cells (cs.setIfInBounds j u) t (0,0)):=by
 rw [setCell_eq_setRow w b j cs t (0,0) u h]
 exact setRow_heap w b cs _ t (0,0) h
theorem Ypu (t:Int) (w:World) (h0:0≤t) (h1:t<2):
 Calls prog 122 #[.int .i64 t] w fun e w'=>e=.returned (.int .i64 (1 - t))∧w=w':=by
 have hc:t=0∨t=1:=by omega
 rcases hc with rfl | rfl
 all_goals
  go_enter func122,ntmps122;go_wp2;go_ret;exact ⟨rfl,rfl⟩
theorem Ypv (t:Int) (w:World):
 Calls prog 108 #[.int .i64 t] w fun e w'=>e=.returned (.int .i64 t)∧w=w':=by
 go_enter func108,ntmps108
 go_wp2
 go_ret
 exact ⟨rfl,rfl⟩
theorem Ymw (vb db:Nat) (start count turn:Int) (w:World) (hc:0≤count) (hc':count<4294967295) (hv:w.heap[vb]? = some (.cells (Ybl db start count turn) 126 (0,0))):
 Calls prog 124 #[.pointer (some ⟨vb,0,none⟩)] w fun e w'=>e=.returned (.agg #[.int .u32 start,.int .u32 (count+1)])∧w'.heap[vb]? = some (.cells (Ybl db start (count+1) turn) 126 (0,0))∧(∀ k,k<w.heap.size→k≠vb→w'.heap[k]? = w.heap[k]?)∧Below 0 w w':=by
 have hx:IntKind.u32.wrap (count+1)=count+1:=by rw [IntKind.wrap_u32];omega
 have c1:w.cell? ⟨vb,1,none⟩=some (.int .u32 start):=Yaa hv rfl
 have c2:w.cell? ⟨vb,2,none⟩=some (.int .u32 count):=Yaa hv rfl
 have f2:=Yah 2 hv
 have HV:=Yh hv
 have hvw:vb<w.heap.size:=Yaj hv
 have hB0:Below w.heap.size w (w.alloc (.cells #[.int .u32 0,.int .u32 0] 168)):=(Below.refl _ _).alloc (Nat.le_refl _) _
 have d1:=(hB0.cell hvw).trans c1
 have d2:=(hB0.cell hvw).trans c2
 have g2:=(hB0.frozen hvw).trans f2
 clear hv c1 c2 f2
 go_enter func124,ntmps124
 go_wp2
 have hv1:((w.setCell ⟨vb,2,none⟩ (.int .u32 (count+1))).alloc (.cells #[.int .u32 0,.int .u32 0] 168)).heap[vb]? = some (.cells (Ybl db start (count+1) turn) 126 (0,0)):=by
  rw [Below.heap_alloc _ _ _ (by simpa using hvw),Yk1 w vb 2 _ _ _ HV.out];rfl
 have hn1:((w.setCell ⟨vb,2,none⟩ (.int .u32 (count+1))).alloc (.cells #[.int .u32 0,.int .u32 0] 168)).heap[w.heap.size]? = some (.cells #[.int .u32 0,.int .u32 0] 168 (0,0)):=by
  have:=heap_alloc_new (w.setCell ⟨vb,2,none⟩ (.int .u32 (count+1))) (.cells #[.int .u32 0,.int .u32 0] 168);simpa using this
 have ho1:∀ k,k<w.heap.size→k≠vb→((w.setCell ⟨vb,2,none⟩ (.int .u32 (count+1))).alloc (.cells #[.int .u32 0,.int .u32 0] 168)).heap[k]? = w.heap[k]?:=fun k h1 h2=>by
  rw [Below.heap_alloc _ _ _ (by simpa using h1),Below.heap_setCell _ _ _ _ h2]
 have hb1:Below 0 w ((w.setCell ⟨vb,2,none⟩ (.int .u32 (count+1))).alloc (.cells #[.int .u32 0,.int .u32 0] 168)):=((Below.refl _ _).setCell (p:=⟨vb,2,none⟩) (by simp) _).alloc (by simp) _
 revert hv1 hn1 ho1 hb1
 generalize (w.setCell ⟨vb,2,none⟩ (.int .u32 (count+1))).alloc (.cells #[.int .u32 0,.int .u32 0] 168)=w1
 intro hv1 hn1 ho1 hb1
 have c1:w1.cell? ⟨vb,1,none⟩=some (.int .u32 start):=Yaa hv1 rfl
 have c2:w1.cell? ⟨vb,2,none⟩=some (.int .u32 (count+1)):=Yaa hv1 rfl
 have n0:w1.cell? ⟨w.heap.size,0,none⟩=some (.int .u32 0):=Yaa hn1 rfl
 have n1:w1.cell? ⟨w.heap.size,1,none⟩=some (.int .u32 0):=Yaa hn1 rfl
 have f0:=Yah 0 hn1
 have f1:=Yah 1 hn1
 have HV1:=Yh hv1
 have HO1:=Yh ho1
 have HB1:=Yh hb1
 have HN1:=Yh hn1
 clear hv1 hn1 ho1 hb1 d1 d2 g2 hB0 HV
 go_region
 have HF:Hid (((w1.setCell ⟨w.heap.size,0,none⟩ (.int .u32 start)).setCell ⟨w.heap.size,1,none⟩ (.int .u32 (count+1))).drew.heap[w.heap.size]? = some (.cells #[.int .u32 start,.int .u32 (count+1)] 168 (0,0))):=by
  exact (Yk1 _ _ 1 _ _ _ (Yk1 _ _ 0 _ _ _ HN1.out)).trans rfl
 all_goals
  go_wp2;refine bodyPost_ret (v:=.agg #[.int .u32 start,.int .u32 (count+1)]) ?_ rfl ⟨rfl,?_,fun k h1 h2=>?_,?_⟩
  ·exact results_cell_row Tryz.results124 _ _ w.heap.size 168 #[.int .u32 start,.int .u32 (count+1)] (0,0) _ rfl HF.out underlying168 rfl (by kernel_rfl)
  ·exact (Below.heap_setCell _ _ _ _ (show vb≠w.heap.size by omega)).trans ((Below.heap_setCell _ _ _ _ (show vb≠w.heap.size by omega)).trans HV1.out)
  ·exact (Below.heap_setCell _ _ _ _ (show k≠w.heap.size by omega)).trans ((Below.heap_setCell _ _ _ _ (show k≠w.heap.size by omega)).trans (HO1.out k h1 h2))
  ·exact ((HB1.out.setCell (p:=⟨w.heap.size,0,none⟩) (by simp) _).setCell (p:=⟨w.heap.size,1,none⟩) (by simp) _).drew
theorem Yve (h:w.ownsRow base e size v n xs) (h0:0<n):
 ∃ g cap cur,v=.slice (some ⟨g,0,none⟩) n cap∧base≤g∧w.heap[g]? = some (.cells cur e (0,0))∧n≤cap∧(∀ (j:Nat) u,xs[j]? = some u→cur[j]? = some u):=by
 rcases h.2 with ⟨_,h⟩ | ⟨g,cap,cur,h1,h2,h3,h4,_,_,h5⟩
 ·omega
 ·refine ⟨g,cap,cur,h1,h2,h3,h4,fun j u hu=>?_⟩
  rw [←h5,List.getElem?_take] at hu;split at hu
  ·simpa using hu
  ·cases hu
theorem Ypw:∀ (S:List Value) (C:Array Value) (o i:Nat) (x:Value),(i<o∨o+S.length≤i)→Ycg (C.setIfInBounds i x) o S=(Ycg C o S).setIfInBounds i x
 | [],_,_,_,_,_=>rfl
 | v :: r,C,o,i,x,h=>by
  have hne:i≠o:=by simp at h;omega
  rw [Ycg,Ycg,Array.setIfInBounds_comm x v hne,Ypw r _ (o+1) i x (by simp at h;omega)]
theorem Yvf (a b log mode:Int) (w:World) (ha:0≤a) (ha':a<4294967296) (hb:0≤b) (hb':b<4294967296) (hl:0≤log) (hl':log<4294967296) (hm:0≤mode) (hm':mode<256):
 Calls prog 123 #[.agg #[.int .u32 a,.int .u32 b],.agg #[.int .u32 log,.int .i64 mode]] w fun r w'=>∃ S:List Value,r=.returned (.agg S.toArray)∧Hid (S=Yam a b (Yei log mode))∧Hid (S.length=64)∧Hid (∀ u∈S,u.oneCell'=true)∧Below w.heap.size w w':=by
 refine (Yvd a b log mode w ha ha' hb hb' hl hl' hm hm').mono ?_
 rintro e w' ⟨rfl,hb⟩
 exact ⟨_,rfl,rfl,Yeh a b _ (by rw [Yps];omega),Yfy a b _ (Ypt log mode),hb⟩
theorem Ypx (vb db:Nat) (start count turn log mode:Int) (D:Array Value) (w:World) (hs:0≤start) (hs':start<4294967296) (hc:0≤count) (hc':count<4294967295) (ht:0≤turn) (ht':turn<2) (hl:0≤log) (hl':log<4294967296) (hm:0≤mode) (hm':mode<256)
 (hne:vb≠db) (hv:w.heap[vb]? = some (.cells (Ybl db start count turn) 126 (0,0))) (hD:w.heap[db]? = some (.cells D 103 (0,0))) (hDz:D.size=27779) (hDv:D[27776]? = some (.slice none 0 0)) (hDf:D[27777]? = some (.int .i64 0)):
 Calls prog 85 #[.pointer (some ⟨vb,0,none⟩),.agg #[.int .u32 log,.int .i64 mode]] w fun e w'=>e=.returned (.tuple #[])∧w'.heap[vb]? = some (.cells (Ybl db start (count+1) (1 - turn)) 126 (0,0)) ∧
  w'.heap[db]? = some (.cells ((Ycg D ((1 - turn).toNat*64) (Yam start (count+1) (Yei log mode))).setIfInBounds 27776 (.slice none 0 0)) 103 (0,0))∧(∀ k,k<w.heap.size→k≠vb→k≠db→w'.heap[k]? = w.heap[k]?)∧Below 0 w w':=by
 have c0:w.cell? ⟨vb,0,none⟩=some (.pointer (some ⟨db,0,none⟩)):=Yaa hv rfl
 have c3:w.cell? ⟨vb,3,none⟩=some (.int .i64 turn):=Yaa hv rfl
 have f3:=Yah 3 hv
 have HV:=Yh hv
 have HD:=Yh hD
 have HDv:Hid (D.size=27779∧D[27776]? = some (.slice none 0 0)∧D[27777]? = some (.int .i64 0)):=⟨hDz,hDv,hDf⟩
 have hvw:vb<w.heap.size:=Yaj hv
 have hB0:Below w.heap.size w (w.alloc (.cells #[.int .u32 log,.int .i64 mode] 133)):=(Below.refl _ _).alloc (Nat.le_refl _) _
 have d3:=(hB0.cell hvw).trans c3
 have g3:=(hB0.frozen hvw).trans f3
 clear hv hD hDz hDv hDf c0 c3 f3 hB0
 go_enter func85,ntmps85
 go_wp2_with (first | (go_at_call 122;refine (Ypu _ _ ht ht').mono ?_;rintro e w' ⟨rfl,rfl⟩))
 have hv1:((w.setCell ⟨vb,3,none⟩ (.int .i64 (1 - turn))).alloc (.cells #[.int .u32 log,.int .i64 mode] 133)).heap[vb]? = some (.cells (Ybl db start count (1 - turn)) 126 (0,0)):=by
  rw [Below.heap_alloc _ _ _ (by simpa using hvw),Yk1 w vb 3 _ _ _ HV.out];rfl
 have hm1:((w.setCell ⟨vb,3,none⟩ (.int .i64 (1 - turn))).alloc (.cells #[.int .u32 log,.int .i64 mode] 133)).heap[w.heap.size]? = some (.cells #[.int .u32 log,.int .i64 mode] 133 (0,0)):=by
  have:=heap_alloc_new (w.setCell ⟨vb,3,none⟩ (.int .i64 (1 - turn))) (.cells #[.int .u32 log,.int .i64 mode] 133);simpa using this
 have ho1:∀ k,k<w.heap.size→k≠vb→((w.setCell ⟨vb,3,none⟩ (.int .i64 (1 - turn))).alloc (.cells #[.int .u32 log,.int .i64 mode] 133)).heap[k]? = w.heap[k]?:=fun k h1 h2=>by
  rw [Below.heap_alloc _ _ _ (by simpa using h1),Below.heap_setCell _ _ _ _ h2]
 have hb1:Below 0 w ((w.setCell ⟨vb,3,none⟩ (.int .i64 (1 - turn))).alloc (.cells #[.int .u32 log,.int .i64 mode] 133)):=((Below.refl _ _).setCell (p:=⟨vb,3,none⟩) (by simp) _).alloc (by simp) _
 have hz1:((w.setCell ⟨vb,3,none⟩ (.int .i64 (1 - turn))).alloc (.cells #[.int .u32 log,.int .i64 mode] 133)).heap.size=w.heap.size+1:=by simp
 revert hv1 hm1 ho1 hb1 hz1
 generalize (w.setCell ⟨vb,3,none⟩ (.int .i64 (1 - turn))).alloc (.cells #[.int .u32 log,.int .i64 mode] 133)=w1
 intro hv1 hm1 ho1 hb1 hz1
 have hdw:db<w.heap.size:=Yaj HD.out
 have HD1:Hid (w1.heap[db]? = some (.cells D 103 (0,0))):=(ho1 db hdw (Ne.symm hne)).trans HD.out
 have c0:w1.cell? ⟨vb,0,none⟩=some (.pointer (some ⟨db,0,none⟩)):=Yaa hv1 rfl
 have c3:w1.cell? ⟨vb,3,none⟩=some (.int .i64 (1 - turn)):=Yaa hv1 rfl
 have m0:w1.cell? ⟨w.heap.size,0,none⟩=some (.int .u32 log):=Yaa hm1 rfl
 have m1:w1.cell? ⟨w.heap.size,1,none⟩=some (.int .i64 mode):=Yaa hm1 rfl
 have HV1:=Yh hv1
 have HM1:=Yh hm1
 have HZ1:=Yh hz1
 have HO1:=Yh ho1
 have HB1:=Yh hb1
 clear hv1 hm1 ho1 hb1 hz1 d3 g3
 go_region_held3 (fun w'=>w'.cell? ⟨vb,0,none⟩=some (.pointer (some ⟨db,0,none⟩))∧w'.cell? ⟨vb,3,none⟩=some (.int .i64 (1 - turn))∧w'.cell? ⟨w.heap.size,0,none⟩=some (.int .u32 log)∧w'.cell? ⟨w.heap.size,1,none⟩=some (.int .i64 mode))
  (go_keep)
  (first
   | (go_at_call 108;refine (Ypv _ _).mono ?_;rintro e w' ⟨rfl,rfl⟩)
   | (go_at_call 124;go_must (
    refine (Ymw vb db start count (1 - turn) w1.drew hc hc' HV1.out).mono ?_;rintro e w2 ⟨rfl,hv2,ho2,hb2⟩;have hm2:=(ho2 w.heap.size (by have:=HZ1.out;simp;omega) (by omega)).trans HM1.out;have HV2:=Yh hv2;have HD2:Hid (w2.heap[db]? = some (.cells D 103 (0,0))):=(ho2 db (by have:=HZ1.out;simp;omega) (Ne.symm hne)).trans HD1.out;have HO2:Hid (∀ k,k<w.heap.size→k≠vb→w2.heap[k]? = w.heap[k]?):=fun k h1 h2=>(ho2 k (by have:=HZ1.out;simp;omega) h2).trans (HO1.out k h1 h2)
    have HB2:Hid (Below 0 w w2):=HB1.out.trans ((Below.refl _ _).drew.trans hb2);have HM2:=Yh hm2;have c0':w2.cell? ⟨vb,0,none⟩=some (.pointer (some ⟨db,0,none⟩)):=Yaa hv2 rfl;have c3':w2.cell? ⟨vb,3,none⟩=some (.int .i64 (1 - turn)):=Yaa hv2 rfl;have m0':w2.cell? ⟨w.heap.size,0,none⟩=some (.int .u32 log):=Yaa hm2 rfl;have m1':w2.cell? ⟨w.heap.size,1,none⟩=some (.int .i64 mode):=Yaa hm2 rfl;clear hv2 ho2 hb2 hm2))
   | (go_at_call 123;go_must (
    refine (Yvf start (count+1) log mode w2 hs hs' (by omega) (by omega) hl hl' hm hm').mono ?_;rintro e w3 ⟨S,rfl,HSS,HSL,HS1,hb3⟩;have HV3:Hid (w3.heap[vb]? = some (.cells (Ybl db start (count+1) (1 - turn)) 126 (0,0))):=(hb3.block _ (Yaj HV2.out)).trans HV2.out;have HM3:Hid (w3.heap[w.heap.size]? = some (.cells #[.int .u32 log,.int .i64 mode] 133 (0,0))):=(hb3.block _ (Yaj HM2.out)).trans HM2.out;have HD3:Hid (w3.heap[db]? = some (.cells D 103 (0,0))):=(hb3.block _ (Yaj HD2.out)).trans HD2.out;have HO3:Hid (∀ k,k<w.heap.size→k≠vb→w3.heap[k]? = w.heap[k]?):=fun k h1 h2=>(hb3.block _ (by have:=HB2.out.size;omega)).trans (HO2.out k h1 h2)
    have HB3:Hid (Below 0 w w3):=HB2.out.trans (hb3.mono (by omega));have c0'':w3.cell? ⟨vb,0,none⟩=some (.pointer (some ⟨db,0,none⟩)):=Yaa HV3.out rfl;have c3'':w3.cell? ⟨vb,3,none⟩=some (.int .i64 (1 - turn)):=Yaa HV3.out rfl;have m0'':w3.cell? ⟨w.heap.size,0,none⟩=some (.int .u32 log):=Yaa HM3.out rfl;have m1'':w3.cell? ⟨w.heap.size,1,none⟩=some (.int .i64 mode):=Yaa HM3.out rfl;clear hb3))
   | (go_at_call 119;go_must (
    refine (Ymq db w3.heap.size 0 (.slice none 0 0) [] (1 - turn) S D w3 HSL.out HS1.out (Yaj HD3.out) (Nat.le_refl _) (World.ownsRow_nil _ _ _ _) (by omega) HD3.out HDv.out.2.1 HDv.out.2.2).mono ?_;rintro e w4 ⟨rfl,g,cap,hown,hd4,ho4,hg4,hb4⟩;have HV4:Hid (w4.heap[vb]? = some (.cells (Ybl db start (count+1) (1 - turn)) 126 (0,0))):=(ho4 _ (Yaj HV3.out) hne (by simp [Value.ownBlock])).trans HV3.out;have HM4:Hid (w4.heap[w.heap.size]? = some (.cells #[.int .u32 log,.int .i64 mode] 133 (0,0))):=(ho4 _ (Yaj HM3.out) (by omega) (by simp [Value.ownBlock])).trans HM3.out;have HO4:Hid (∀ k,k<w.heap.size→k≠vb→k≠db→w4.heap[k]? = w.heap[k]?):=fun k h1 h2 h3=>(ho4 _ (by have:=HB3.out.size;omega) h3 (by simp [Value.ownBlock])).trans (HO3.out k h1 h2)
    have HB4:Hid (Below 0 w w4):=HB3.out.trans hb4;have HW4:=Yh hown;have HD4:=Yh hd4;have c04:w4.cell? ⟨vb,0,none⟩=some (.pointer (some ⟨db,0,none⟩)):=Yaa HV4.out rfl;have c34:w4.cell? ⟨vb,3,none⟩=some (.int .i64 (1 - turn)):=Yaa HV4.out rfl;have m04:w4.cell? ⟨w.heap.size,0,none⟩=some (.int .u32 log):=Yaa HM4.out rfl;have m14:w4.cell? ⟨w.heap.size,1,none⟩=some (.int .i64 mode):=Yaa HM4.out rfl;clear hown hd4 ho4 hg4 hb4)))
 have HT:Hid (((1 - turn).toNat:Int)=1 - turn):=Int.toNat_of_nonneg (by omega)
 obtain ⟨g7,cap7,cur7,hsl,hg7b,hg7h,hc7,hcur⟩:=Yve HW4.out (by omega)
 simp only [Value.slice.injEq,Option.some.injEq,Addr.mk.injEq,and_true,true_and] at hsl
 obtain ⟨rfl,rfl⟩:=hsl
 have HX:Hid (∀ (j:Nat) u,(Ycs [((1 - turn).toNat,S)])[j]? = some u→cur7[j]? = some u):=by
  intro j u hu;refine hcur j u ?_;simpa [Ycs,HT.out] using hu
 have HOK:Hid (Ydn [((1 - turn).toNat,S)]):=by
  intro p hp;simp at hp;subst hp;exact ⟨by show (1 - turn).toNat<434;omega,HSL.out,HS1.out⟩
 have HG:Hid (w4.heap[g]? = some (.cells cur7 143 (0,0))∧w3.heap.size≤g):=⟨hg7h,hg7b⟩
 have HDL:Hid (db<w3.heap.size):=Yaj HD3.out
 clear hg7b hg7h hc7 hcur
 go_wp2_with (first
  | (go_at_call 117;go_must (
   refine (Ymu db w3.heap.size g cap [((1 - turn).toNat,S)] _ cur7 w4 HDL.out HG.out.2 HOK.out (by simp) HD4.out ?hz ?hv HG.out.1 HX.out).mono ?_
   case hz=>simp;exact HDv.out.1
   case hv=>simp [HDv.out.1]
   rintro e w5 ⟨rfl,hd5,ho5,hb5⟩;have HV5:Hid (w5.heap[vb]? = some (.cells (Ybl db start (count+1) (1 - turn)) 126 (0,0))):=(ho5 _ (Yaj HV4.out) hne).trans HV4.out;have HO5:Hid (∀ k,k<w.heap.size→k≠vb→k≠db→w5.heap[k]? = w.heap[k]?):=fun k h1 h2 h3=>(ho5 _ (by have:=HB4.out.size;omega) h3).trans (HO4.out k h1 h2 h3)
   have HB5:Hid (Below 0 w w5):=HB4.out.trans hb5;have HD5:Hid (w5.heap[db]? = some (.cells ((Ycg D ((1 - turn).toNat*64) (Yam start (count+1) (Yei log mode))).setIfInBounds 27776 (.slice none 0 0)) 103 (0,0))):=by
    show _=_;rw [hd5,←HSS.out];simp only [Ybp,List.foldl_cons,List.foldl_nil];rw [Ypw _ _ _ _ _ (Or.inr (by rw [HSL.out];omega))];simp
   clear hd5 ho5 hb5)))
 go_end0
 exact ⟨rfl,HV5.out,HD5.out,HO5.out,HB5.out⟩
theorem Yvg (p:Option Addr) (w:World):
 Calls prog 77 #[.pointer p] w fun e w'=>e=.returned (.agg #[.pointer p,.map (some (w.heap.size+1)),.map (some (w.heap.size+1+1))]) ∧
  ((w.alloc (.cells #[.pointer p,.map (some (w.heap.size+1)),.map (some (w.heap.size+1+1))] 130)).alloc (.map #[] 0)).alloc (.map #[] 0)=w':=by
 have hmm:=@run_makeMap prog
 go_enter func77,ntmps77
 go_wp2
 exact bodyPost_ret (v:=.agg #[.pointer p,.map (some (w.heap.size+1)),.map (some (w.heap.size+1+1))]) (by simp [results,Tryz.results77,go_sem]) rfl ⟨rfl,rfl⟩
theorem Ymx:Tryz.zeroCells103.size=27779:=by kernel_rfl
theorem Ypy:Tryz.zeroCells103[27776]? = some (.slice none 0 0):=by kernel_rfl
theorem Ypz:Tryz.zeroCells103[27777]? = some (.int .i64 0):=by kernel_rfl
theorem Ymy (m:Int) (w:World):
 Calls prog 48 #[.int .i64 m] w fun e w'=>e=.returned (.bool (m == 0 || m == 1))∧w=w':=by
 go_enter func48,ntmps48
 go_wp2
 all_goals
  go_ret;exact ⟨by simp [*],rfl⟩
theorem Yp0 (db:Nat) (w:World):
 Calls prog 76 #[.pointer (some ⟨db,0,none⟩)] w fun e w'=>e=.returned (.pointer (some ⟨w.heap.size,0,none⟩))∧w'=w.alloc (.cells (Ybl db 1 0 0) 126):=by
 go_enter func76,ntmps76
 go_wp2
 go_ret
 exact ⟨rfl,rfl⟩
theorem Yvh (m:Int) (h0:(m == 0)=false) (h1:(m == 1)=false) (w:World):
 Calls prog 40 #[.int .i64 m] w fun e w'=>e=.returned (.tuple #[.pointer none,.int .i64 1])∧Below w.heap.size w w':=by
 go_enter func40,ntmps40
 go_wp2_with (first | (go_at_call 48;refine (Ymy _ _).mono ?_;rintro e w' ⟨rfl,rfl⟩))
 go_ret2
 exact ⟨rfl,Below.refl _ _⟩
theorem Yaz {o:Obj} (h:w.heap[k]? = some o):k<w.heap.size:=(Array.getElem?_eq_some_iff.1 h).1
theorem Yvi (m:Int) (h0:(m == 0)=false) (h1:(m == 1)=false) (w:World):
 Calls prog 59 #[.int .i64 m] w fun e w'=>e=.returned (.tuple #[.pointer none,.int .i64 1])∧w=w':=by
 have h0':(m != 0)=true:=by simpa using h0
 have h1':(m != 1)=true:=by simpa using h1
 go_enter func59,ntmps59
 go_wp2
 go_ret2
 exact ⟨rfl,rfl⟩
theorem Yp1 {b:Nat} {cs:Array Value} {fz:Nat×Nat} (h:w.heap[b]? = some (.cells cs t fz)) (hv:cs[j]? = some v):w.cell? ⟨b,j,none⟩=some v:=by
 simp [World.cell?,h,hv]
theorem Yvj {cs:Array Value} (hb:Below (w.alloc (.cells cs t)).heap.size (w.alloc (.cells cs t)) w') (j:Nat) (v:Value) (hv:cs[j]? = some v):
 w'.cell? ⟨w.heap.size,j,none⟩=some v:=by
 rw [hb.cell (by simp)]
 exact Yp1 (heap_alloc_new w _) hv
theorem Yvk:(prog.info? 84).map (fun i=>(i.zero,i.size,i.bytes))=some (some (.pointer none),1,8):=by kernel_rfl
theorem Yvl (m:Int) (h0:(m == 0)=false) (h1:(m == 1)=false) (p:Option Addr) (o0 o1 o3 o4 o5 o6 o7 o8:Value) (w:World):
 Calls prog 37 #[.pointer p,.agg #[o0,o1,.int .i64 m,o3,o4,o5,o6,o7,o8]] w fun e w'=>e=.returned (.bool true)∧Below w.heap.size w w':=by
 go_enter func37,ntmps37
 go_wp2_with (first | (go_at_call 40;refine (Yvh _ h0 h1 _).mono ?_;rintro e w' ⟨rfl,hb⟩;have hc:=Yvj hb 2 (.int .i64 m) rfl) | (go_at_call 59;refine (Yvi _ h0 h1 _).mono ?_;rintro e w' ⟨rfl,rfl⟩))
 go_ret
 exact ⟨rfl,((Below.refl _ _).alloc (Nat.le_refl _) _).trans (hb.mono (by simp))⟩
theorem Yvm (k:Int) (h1:(k == 1)=false) (h11:(k == 11)=false) (h2:k<2) (p:Option Addr) (o1 o2 o3 o4 o5 o6 o7 o8:Value) (w:World):
 Calls prog 38 #[.pointer p,.agg #[.int .i64 k,o1,o2,o3,o4,o5,o6,o7,o8]] w fun e w'=>e=.returned (.bool true)∧Below w.heap.size w w':=by
 go_enter func38,ntmps38
 go_wp2
 go_ret
 exact ⟨rfl,(Below.refl _ _).alloc (Nat.le_refl _) _⟩
theorem Yvn (c:Nat) (w:World):(method 476 234 (.pointer (some ⟨c,0,none⟩)) "Begin").run prog w=.ok (273,.pointer (some ⟨c,0,none⟩)) w:=by kernel_rfl
theorem Yfz (a t:Nat) (v:Value) (w:World) (ca:w.cell? ⟨a,2,none⟩=some (.iface t v)):
 Calls prog 41 #[.pointer (some ⟨a,0,none⟩)] w fun e w'=>e=.returned (.bool false)∧w=w':=by
 go_enter func41,ntmps41
 go_wp2
 go_ret
 exact ⟨rfl,rfl⟩
theorem Ydf (h:w.ownsRow base e size v n xs) {k:Nat} (hk:v.ownBlock=some k):∃ cur,w.heap[k]? = some (.cells cur e (0,0)):=by
 rcases h.2 with ⟨rfl,_⟩ | ⟨g,cap,cur,rfl,_,hg,_⟩
 ·simp [Value.ownBlock] at hk
 ·simp [Value.ownBlock] at hk;subst hk;exact ⟨cur,hg⟩
structure OpV where
 (kind n mode t:Int)
 (key val:ByteArray)
 (keep tear fuse:Int)
def OpV.cells (o:OpV):List Value:=[.int .i64 o.kind,.int .i64 o.n,.int .i64 o.mode,.int .i64 o.t,.string o.key,.string o.val,.int .u64 o.keep,.int .i64 o.tear,.int .i64 o.fuse]
theorem Yvo (p s:Value) (w:World):
 CallsD prog 100 #[p,s] .returning w fun e u' w'=>e=.returned (.tuple #[])∧u'=.returning∧w'=w:=by
 refine callsD_of_wpS func100 rfl fun c₀ cs hu=>?_
 apply wpS_seq
 apply wpS_seq
 apply wpS_region
 simp [wpOpsS,go_sem,recoverD,hu,ntmps100,Exit.thenS]
 refine wpS_of_wp ?_
 go_wp2
 cases c₀
 simp_all [bodyPostS,results,Tryz.results100,Exit.thenS]
theorem Yvp (sb:Nat) (f:Nat) (cap:Array Value) (w:World) (R:Int→World→Prop)
 (KD:∀ o1 o2,Calls prog f cap ((w.alloc o1).alloc o2) fun e w'=>∃ x,e=.returned (.int .i64 x)∧w'.heap[w.heap.size+1]? = some o2∧R x w')
 (hen:∀ args w,(callFunc f args).run prog w=.ok (.enter f args) w):
 Calls prog 72 #[.pointer (some ⟨sb,0,none⟩),.func (.func f) #[] cap] w fun e w'=>∃ x w1,e=.returned (.int .i64 x)∧R x w1∧w'=w1.setCell ⟨w.heap.size+1,0,none⟩ (.int .i64 x):=by
 have hmf:∀ (fn:Fn) (first cap:Array Value) (w:World),(Instr.makeFunc fn first cap).run prog w=.ok (.func fn first cap) w:=fun _ _ _ _=>rfl
 go_enter_defers func72,ntmps72
 have HKD:=Yh KD
 clear KD
 go_wp2
 refine (HKD.out _ _).mono ?_
 rintro e w1 ⟨x,rfl,hn,hR⟩
 have HR:=Yh hR
 have x0:=Yaa (j:=0) hn rfl
 have y0:=Yah 0 hn
 have HN:=Yh hn
 clear hn hR
 go_wp2
 have hc:(w1.setCell ⟨w.heap.size+1,0,none⟩ (.int .i64 x)).heap[w.heap.size+1]? = some (.cells #[.int .i64 x] 29 (0,0)):=Yak w1 _ 0 _ _ _ HN.out
 have hc0:=Yaa (j:=0) hc rfl
 refine leaves_cons (f:=100) (args:=#[.pointer (some ⟨w.heap.size+1,0,none⟩),.pointer (some ⟨w.heap.size,0,none⟩)]) (by simp) (by simp [go_sem]) ?_
 refine (Yvo _ _ _).mono ?_
 rintro e u' w'' ⟨rfl,rfl,rfl⟩
 refine ⟨.int .i64 x,?_,x,w1,rfl,HR.out,rfl⟩
 simp [results,Tryz.results72,go_sem,hc0]
theorem Ymz (sb:Nat) (t:TypeId) (y:Value) (f:Nat) (cap:Array Value) (w:World) (R:Int→World→Prop) (hs:w.cell? ⟨sb,2,none⟩=some (.iface t y))
 (KD:∀ o1 o2,Calls prog f cap ((w.alloc o1).alloc o2) fun e w'=>∃ x,e=.returned (.int .i64 x)∧w'.heap[w.heap.size+1]? = some o2∧R x w')
 (hen:∀ args w,(callFunc f args).run prog w=.ok (.enter f args) w):
 Calls prog 53 #[.pointer (some ⟨sb,0,none⟩),.func (.func f) #[] cap] w fun e w'=>∃ x w1,e=.returned (.int .i64 x)∧R x w1∧w'=w1.setCell ⟨w.heap.size+1,0,none⟩ (.int .i64 x):=by
 have KC:=Yvp sb f cap w R KD hen
 have HKC:=Yh KC
 clear KC KD hen
 go_enter func53,ntmps53
 go_wp2_with (first
  | (go_at_call 41;refine (Yfz _ _ _ _ hs).mono ?_;rintro e w' ⟨rfl,rfl⟩)
  | (go_at_call 72;go_must (refine HKC.out.mono ?_;rintro e w2 ⟨x,w1,rfl,hR,rfl⟩)))
 go_ret
 exact ⟨x,w1,rfl,hR,rfl⟩
def Ye4 (s:ByteArray):Nat→Nat
 | 0=>0
 | n+1=>Ye4 s n+(s.data[n]?.getD 0).toNat
theorem Ym0 (s:ByteArray):∀ n,Ye4 s n≤255*n
 | 0=>Nat.le_refl _
 | n+1=>by
  have:=Ym0 s n;have h:(s.data[n]?.getD 0).toNat<256:=UInt8.toNat_lt _;simp only [Ye4];omega
def Yae (s:ByteArray):Nat:=Ye4 s s.size % 8
theorem Yk2 (key:ByteArray) (w:World) (hk:key.size≤1000000):
 Calls prog 112 #[.string key] w fun e w'=>e=.returned (.int .i64 (Yae key))∧w=w':=by
 go_enter func112,ntmps112
 go_wp2
 have HK:=Yh hk
 go_loopw [3,7] (fun u i wr=>∃ k:Nat,k≤key.size∧i=.int .i64 k∧u=.int .i64 (Ye4 key k)∧wr=w) (fun _ i _=>key.size - (intOf i).toNat)
 case atStart=>exact ⟨0,by omega,rfl,rfl,rfl⟩
 case round=>
  obtain ⟨k,hk',rfl,rfl,rfl⟩:=hrel;have hle:=Ym0 key k;by_cases hlt:k<key.size
  ·have hlt':(k:Int)<(key.size:Int):=by omega
   have hs:Ye4 key (k+1)=Ye4 key k+(key.data[k]?.getD 0).toNat:=rfl;have hb:(key.data[k]?.getD 0).toNat<256:=UInt8.toNat_lt _;have HS:=Yh hs;clear hs;have HE:Hid (key[k].toNat=(key.data[k]?.getD 0).toNat):=by
    show _=_;have h2:k<key.data.size:=hlt;rw [Array.getElem?_eq_getElem h2];rfl
   go_wp2;refine ⟨⟨k+1,by omega,by simp,?_,trivial⟩,by simp [intOf];omega⟩;have h1:=HS.out;have h2:=HE.out;have h3:=HK.out;rw [h1,h2];clear HS HE h1 h2;generalize (key.data[k]?.getD 0).toNat=b at hb;generalize Ye4 key k=t at hle;have e1:wrap64 (b:Int)=b:=by unfold wrap64;omega
   rw [e1];have e2:wrap64 ((t:Int)+b)=((t+b:Nat):Int):=by unfold wrap64;omega
   rw [e2]
  ·have hlt':¬(k:Int)<(key.size:Int):=by omega
   have hkk:k=key.size:=by omega
   subst hkk;go_wp2;go_ret;exact ⟨by rw [Yae];rfl,rfl⟩
theorem toList_inj (h:a.toList=b.toList):a=b:=by
 rw [Lib.toList_data,Lib.toList_data] at h;exact ByteArray.ext (Array.ext' h)
theorem Yg8 (h:a≠b):(a.toList == b.toList)=false:=by
 simp only [beq_eq_false_iff_ne,ne_eq];exact fun e=>h (toList_inj e)
def Yag:Yaf→ByteArray→Bool×ByteArray
 | [],_=>(false,ByteArray.empty)
 | p :: r,k=>if p.1=k then (true,p.2) else Yag r k
theorem Yk3 (base:Nat) (v:Value) (ps:Yaf) (key:ByteArray) (w:World) (hown:w.ownsRow base 43 2 v ps.length (Yad ps)):
 Calls prog 136 #[v,.string key] w fun e w'=>e=.returned (.agg #[.bool (Yag ps key).1,.string (Yag ps key).2])∧Below w.heap.size w w':=by
 obtain ⟨p,cap,rfl,hmax⟩:=Ya6 hown
 unfold maxLen at hmax
 go_enter func136,ntmps136
 go_wp2
 have hnew:=heap_alloc_new w (.cells #[.bool false,.string ByteArray.empty] 38)
 have hB:Below w.heap.size w (w.alloc (.cells #[.bool false,.string ByteArray.empty] 38)):=(Below.refl _ _).alloc (Nat.le_refl _) _
 have hown1:=hown.alloc (.cells #[.bool false,.string ByteArray.empty] 38)
 change Code.wp _ _ _ _ (w.alloc (.cells #[.bool false,.string ByteArray.empty] 38))
 revert hnew hB hown1
 generalize w.alloc (.cells #[.bool false,.string ByteArray.empty] 38)=w1
 intro hnew hB hown1
 have n0:w1.cell? ⟨w.heap.size,0,none⟩=some (.bool false):=Yaa hnew rfl
 have n1:w1.cell? ⟨w.heap.size,1,none⟩=some (.string ByteArray.empty):=Yaa hnew rfl
 have f0:=Yah 0 hnew
 have f1:=Yah 1 hnew
 have HN:=Yh hnew
 have HB:=Yh hB
 clear hnew hB hown
 go_loopw [5] (fun i wr=>∃ k:Nat,k≤ps.length∧i=.int .i64 k∧wr=w1∧Yag ps key=Yag (ps.drop k) key) (fun i _=>ps.length - (intOf i).toNat)
 case atStart=>exact ⟨0,by omega,rfl,rfl,by simp⟩
 case round=>
  obtain ⟨k,hk,rfl,rfl,hu⟩:=hrel;by_cases hlt:k<ps.length
  ·have hlt':(k:Int)<(ps.length:Int):=by omega
   obtain ⟨g,cap',he⟩:=Ybn hown1 (by omega);simp only [Value.slice.injEq] at he;obtain ⟨rfl,-,rfl⟩:=he;obtain ⟨hc0,hc1⟩:=Ye2 ps k ps[k] (List.getElem?_eq_getElem hlt);have c0:=Yal hown1 hc0;have c1:=Yal hown1 hc1;have hu1:Yag ps key=if ps[k].1=key then (true,ps[k].2) else Yag (ps.drop (k+1)) key:=by
    rw [hu,List.drop_eq_getElem_cons hlt];rfl
   clear hu hc0 hc1;generalize ps[k]=pk at c0 c1 hu1;obtain ⟨k0,v0⟩:=pk;simp only at c0 c1 hu1;by_cases hkey:k0=key
   ·subst hkey
    rw [if_pos rfl] at hu1;have HF:Hid (((wr.setCell ⟨w.heap.size,0,none⟩ (.bool true)).setCell ⟨w.heap.size,1,none⟩ (.string v0)).heap[w.heap.size]? = some (.cells #[.bool true,.string v0] 38 (0,0))):=by
     exact (Yak _ _ 1 _ _ _ (Yak _ _ 0 _ _ _ HN.out)).trans rfl
    go_wp2;refine bodyPost_ret (v:=.agg #[.bool true,.string v0]) ?_ rfl ⟨by rw [hu1],?_⟩
    ·exact results_cell_row Tryz.results136 _ _ w.heap.size 38 #[.bool true,.string v0] (0,0) _ rfl HF.out underlying38 rfl (by kernel_rfl)
    ·exact (HB.out.setCell (p:=⟨w.heap.size,0,none⟩) (Nat.le_refl _) _).setCell (p:=⟨w.heap.size,1,none⟩) (Nat.le_refl _) _
   ·rw [if_neg hkey] at hu1
    have hke:=Yg8 hkey;go_wp2;exact ⟨⟨k+1,by omega,by simp,trivial,hu1⟩,by simp [intOf];omega⟩
  ·have hlt':¬(k:Int)<(ps.length:Int):=by omega
   have hu1:Yag ps key=(false,ByteArray.empty):=by rw [hu,List.drop_eq_nil_of_le (by omega)];rfl
   clear hu;have HF:Hid (((wr.setCell ⟨w.heap.size,0,none⟩ (.bool false)).setCell ⟨w.heap.size,1,none⟩ (.string ByteArray.empty)).heap[w.heap.size]? = some (.cells #[.bool false,.string ByteArray.empty] 38 (0,0))):=by
    exact (Yak _ _ 1 _ _ _ (Yak _ _ 0 _ _ _ HN.out)).trans rfl
   go_wp2;refine bodyPost_ret (v:=.agg #[.bool false,.string ByteArray.empty]) ?_ rfl ⟨by first | rfl | rw [hu1],?_⟩
   ·exact results_cell_row Tryz.results136 _ _ w.heap.size 38 #[.bool false,.string ByteArray.empty] (0,0) _ rfl HF.out underlying38 rfl (by kernel_rfl)
   ·exact (HB.out.setCell (p:=⟨w.heap.size,0,none⟩) (Nat.le_refl _) _).setCell (p:=⟨w.heap.size,1,none⟩) (Nat.le_refl _) _
def Yby (key val:ByteArray) (st:Yaf×Bool) (p:ByteArray×ByteArray):Yaf×Bool:=
 let st1:=if st.2=false∧(key.toList<p.1.toList∨key=p.1) then (st.1 ++ [(key,val)],true) else st
 if p.1=key then st1 else (st1.1 ++ [p],st1.2)
def Yhz (l:Yaf) (key val:ByteArray) (is:Bool):Yaf×Bool:=l.foldl (Yby key val) ([],!is)
def Yaw (l:Yaf) (key:ByteArray) (is:Bool) (val:ByteArray):Yaf:=
 let st:=Yhz l key val is
 if st.2 then st.1 else st.1 ++ [(key,val)]
theorem Ygk:(prog.info? 43).map (fun i=>(i.zero,i.size,i.bytes))=some (some (.agg #[.string ByteArray.empty,.string ByteArray.empty]),2,32):=by kernel_rfl
def Yd8 (ps:Yaf) (key val:ByteArray) (is:Bool) (k:Nat):Yaf×Bool:=(ps.take k).foldl (Yby key val) ([],!is)
theorem Yp2 (ps:Yaf) (key val:ByteArray) (is:Bool) (k:Nat) (h:k<ps.length):Yd8 ps key val is (k+1)=Yby key val (Yd8 ps key val is k) ps[k]:=by
 simp only [Yd8];rw [List.take_succ_eq_append_getElem h,List.foldl_append];rfl
theorem Yvq (key val:ByteArray) (st:Yaf×Bool) (p:ByteArray×ByteArray):(Yby key val st p).1.length≤st.1.length+2:=by
 unfold Yby;simp only;split <;> split <;> simp
theorem Ym1 (ps:Yaf) (key val:ByteArray) (is:Bool):∀ k,k≤ps.length→(Yd8 ps key val is k).1.length≤2*k
 | 0,_=>by simp [Yd8]
 | k+1,h=>by
  rw [Yp2 ps key val is k (by omega)];have:=Yvq key val (Yd8 ps key val is k) ps[k];have:=Ym1 ps key val is k (by omega);omega
theorem Yp3 (h:¬a.toList<b.toList):Op.bytesLess a.toList b.toList=false:=by
 rw [bytesLess_eq];simpa using h
theorem Yp4 (h:a.toList<b.toList):Op.bytesLess a.toList b.toList=true:=by
 rw [bytesLess_eq];simpa using h
theorem Ym2 {B:Nat} (hg:w.grownBy w' v.ownBlock) (ho:w.ownsRow base e size v n xs) (hB:B≤base) (hs:B≤w.heap.size):Below B w w':=
 ⟨hg.os,hg.tape,hg.output,hg.size,fun k hk=>hg.block k (by omega) (fun h=>by have:=(ho.lt k h.symm).1;omega)⟩
theorem Ydg (g j:Nat):(⟨g,0,none⟩:Addr).add j=⟨g,j,none⟩:=by unfold Addr.add;split <;> simp_all
theorem Yp5 {l:Yaf} (h:w.ownsRow base 43 2 v (l.length+1) (Yad l ++ [.string a,.string b])):w.ownsRow base 43 2 v (l ++ [(a,b)]).length (Yad (l ++ [(a,b)])):=by
 rw [Yg5,List.length_append];exact h
theorem Yg9 {rest:List Oper} {ac:Act} (hgd:o.guard=none) (s x:Operand)
 (ho:o.op=.call { callee:=.builtin .append,args:=#[s,x],argTypes:=#[34,34] }) (base:Nat) (v:Value) (l:Yaf) (hs:ac.eval s=v) (hown:w.ownsRow base 43 2 v l.length (Yad l))
 (g:Nat) (a b:ByteArray) (hx:ac.eval x=.slice (some ⟨g,0,none⟩) 1 1) (hg:w.heap[g]? = some (.cells #[.string a,.string b] 43 (0,0))) (hlen:l.length≤1000000) (hbase:base≤w.heap.size)
 (h:∀ v' w',w'.ownsRow base 43 2 v' (l ++ [(a,b)]).length (Yad (l ++ [(a,b)]))→Below base w w'→wpList prog ops Q rest (ac.put o.dst v') w'):wpList prog ops Q (o :: rest) ac w:=by
 obtain ⟨i0,hi,hz0,hz1,hz2⟩:=info_parts Ygk
 refine wpList_append_own_at w hgd s x 34 ho base 43 i0 _ 2 32 underlying34 hi hz0 hz1 hz2 rfl (by decide) v l.length (Yad l) hs hown ⟨g,0,none⟩ 1 1 [.string a,.string b] hx rfl (fun j u hu=>by rw [Ydg];exact Yaa hg (by simpa using hu)) (fun x hx=>by simp at hx;rcases hx with rfl | rfl <;> rfl) (by unfold maxLen;omega) (by omega) hbase ?_
 intro v' w' h1 h2 _ _
 exact h v' w' (Yp5 h1) (Ym2 h2 hown (Nat.le_refl _) hbase)
theorem Yk4 (base:Nat) (v:Value) (ps:Yaf) (key:ByteArray) (is:Bool) (val:ByteArray) (w:World) (hown:w.ownsRow base 43 2 v ps.length (Yad ps)) (hlen:ps.length≤100000):
 Calls prog 134 #[v,.string key,.agg #[.bool is,.string val]] w fun e w'=>∃ v',e=.returned v'∧w'.ownsRow w.heap.size 43 2 v' (Yaw ps key is val).length (Yad (Yaw ps key is val))∧Below w.heap.size w w':=by
 obtain ⟨p,cap,rfl,hmax⟩:=Ya6 hown
 clear hmax
 go_enter func134,ntmps134
 go_wp2
 have hB:Below w.heap.size w (w.alloc (.cells #[.bool is,.string val] 38)):=(Below.refl _ _).alloc (Nat.le_refl _) _
 have hnew:=heap_alloc_new w (.cells #[.bool is,.string val] 38)
 have hown1:=hown.alloc (.cells #[.bool is,.string val] 38)
 have hz:(w.alloc (.cells #[.bool is,.string val] 38)).heap.size=w.heap.size+1:=by simp
 have hlt0:∀ g,(Value.slice p ps.length cap).ownBlock=some g→g<w.heap.size:=fun g hg=>(hown.lt g hg).2
 revert hB hnew hown1 hz
 generalize w.alloc (.cells #[.bool is,.string val] 38)=w1
 intro hB hnew hown1 hz
 clear hown
 go_loopw [7,8,9] (fun u d i wr=>∃ k:Nat,k≤ps.length∧i=.int .i64 k∧d=.bool (Yd8 ps key val is k).2∧wr.ownsRow (w.heap.size+1) 43 2 u (Yd8 ps key val is k).1.length (Yad (Yd8 ps key val is k).1)∧Below (w.heap.size+1) w1 wr) (fun _ _ i _=>ps.length - (intOf i).toNat)
 case atStart=>exact ⟨0,by omega,rfl,rfl,World.ownsRow_nil _ _ _ _,Below.refl _ _⟩
 case round=>
  obtain ⟨k,hk,rfl,rfl,hout,hbr⟩:=hrel;have hsz:=hbr.size;have hownr:wr.ownsRow base 43 2 (.slice p ps.length cap) ps.length (Yad ps):=Ybe hown1 hbr (fun g hg=>by have:=hlt0 g hg;omega);have c5:wr.cell? ⟨w.heap.size,1,none⟩=some (.string val):=(hbr.cell (by simp)).trans (Yaa hnew rfl);have HBR:=Yh hbr;by_cases hlt:k<ps.length
  ·have hlt':(k:Int)<(ps.length:Int):=by omega
   obtain ⟨g,cap',he⟩:=Ybn hownr (by omega);simp only [Value.slice.injEq] at he;obtain ⟨rfl,-,rfl⟩:=he;obtain ⟨hc0,hc1⟩:=Ye2 ps k ps[k] (List.getElem?_eq_getElem hlt);have c0:=Yal hownr hc0;have c1:=Yal hownr hc1;have hL:=Ym1 ps key val is k (by omega);have hS:=Yp2 ps key val is k hlt;have hgl:g<w.heap.size:=hlt0 g rfl;clear hc0 hc1 hbr;generalize ps[k]=pk at c0 c1 hS;obtain ⟨k0,v0⟩:=pk;simp only at c0 c1;have HS:=Yh hS;clear hS;generalize Yd8 ps key val is k=st at hout hL HS;obtain ⟨out,dn⟩:=st;simp only at hout hL;have tok1:True:=trivial;have tok2:True:=trivial
   cases dn with
   | true=>
    by_cases he:k0=key
    ·have hw':Yby key val (out,true) (k0,v0)=(out,true):=by simp [Yby,he]
     subst he;go_wp2;refine ⟨⟨k+1,by omega,by simp,?_,?_,HBR.out⟩,by simp [intOf];omega⟩
     ·rw [HS.out,hw']
     ·rw [HS.out,hw'];exact hout
    ·have hw':Yby key val (out,true) (k0,v0)=(out ++ [(k0,v0)],true):=by simp [Yby,he]
     have he':=Yg8 he;go_wp2_with (first
      | (at_builtin;have _t:=tok2;go_must (
       refine Yg9 rfl _ _ rfl (w.heap.size+1) _ out rfl (hout.alloc _) wr.heap.size k0 v0 rfl (heap_alloc_new _ _) (by omega) (by simp;omega) ?_;intro v5 w5 hown5 hb5;have HB5:Hid (Below (w.heap.size+1) w1 w5):=HBR.out.trans (((Below.refl _ _).alloc (by omega) _).trans hb5);clear hb5 tok2)))
     refine ⟨⟨k+1,by omega,by simp,?_,?_,HB5.out⟩,by simp [intOf];omega⟩
     ·rw [HS.out,hw']
     ·rw [HS.out,hw'];exact hown5
   | false=>
    by_cases he:k0=key
    ·have he2:=he.symm
     subst he2;have hw':Yby key val (out,false) (key,v0)=(out ++ [(key,val)],true):=by simp [Yby]
     go_wp2_with (first
      | (at_builtin;have _t:=tok1;go_must (
       refine Yg9 rfl _ _ rfl (w.heap.size+1) _ out rfl (hout.alloc _) wr.heap.size key val rfl (heap_alloc_new _ _) (by omega) (by simp;omega) ?_;intro v4 w4 hown4 hb4';have hb4:Below (w.heap.size+1) wr w4:=((Below.refl _ _).alloc (by omega) _).trans hb4';have HB4:Hid (Below (w.heap.size+1) w1 w4):=HBR.out.trans hb4;have d0:w4.cell? ⟨g,k*2,none⟩=some (.string key):=(hb4.cell (by simp;omega)).trans c0;have d1:w4.cell? ⟨g,k*2+1,none⟩=some (.string v0):=(hb4.cell (by simp;omega)).trans c1;have hs4:=hb4.size;clear hb4 hb4' tok1)))
     refine ⟨⟨k+1,by omega,by simp,?_,?_,HB4.out⟩,by simp [intOf];omega⟩
     ·rw [HS.out,hw']
     ·rw [HS.out,hw'];exact hown4
    ·have he':=Yg8 he
     have he3:=Yg8 (Ne.symm he);by_cases hl:key.toList<k0.toList
     ·have hl':=Yp4 hl
      have hw':Yby key val (out,false) (k0,v0)=(out ++ [(key,val)] ++ [(k0,v0)],true):=by simp [Yby,he,hl]
      go_wp2_with (first
       | (at_builtin;have _t:=tok1;go_must (
        refine Yg9 rfl _ _ rfl (w.heap.size+1) _ out rfl (hout.alloc _) wr.heap.size key val rfl (heap_alloc_new _ _) (by omega) (by simp;omega) ?_;intro v4 w4 hown4 hb4';have hb4:Below (w.heap.size+1) wr w4:=((Below.refl _ _).alloc (by omega) _).trans hb4';have HB4:Hid (Below (w.heap.size+1) w1 w4):=HBR.out.trans hb4;have d0:w4.cell? ⟨g,k*2,none⟩=some (.string k0):=(hb4.cell (by simp;omega)).trans c0;have d1:w4.cell? ⟨g,k*2+1,none⟩=some (.string v0):=(hb4.cell (by simp;omega)).trans c1;have hs4:=hb4.size;clear hb4 hb4' tok1))
       | (at_builtin;have _t:=tok2;go_must (
        refine Yg9 rfl _ _ rfl (w.heap.size+1) _ (out ++ [(key,val)]) rfl (hown4.alloc _) w4.heap.size k0 v0 rfl (heap_alloc_new _ _) (by simp;omega) (by simp;omega) ?_;intro v5 w5 hown5 hb5;have HB5:Hid (Below (w.heap.size+1) w1 w5):=HB4.out.trans (((Below.refl _ _).alloc (by omega) _).trans hb5);clear hb5 tok2)))
      refine ⟨⟨k+1,by omega,by simp,?_,?_,HB5.out⟩,by simp [intOf];omega⟩
      ·rw [HS.out,hw']
      ·rw [HS.out,hw'];exact hown5
     ·have hl':=Yp3 hl
      have hw':Yby key val (out,false) (k0,v0)=(out ++ [(k0,v0)],false):=by simp [Yby,he,hl,Ne.symm he]
      go_wp2_with (first
       | (at_builtin;have _t:=tok2;go_must (
        refine Yg9 rfl _ _ rfl (w.heap.size+1) _ out rfl (hout.alloc _) wr.heap.size k0 v0 rfl (heap_alloc_new _ _) (by omega) (by simp;omega) ?_;intro v5 w5 hown5 hb5;have HB5:Hid (Below (w.heap.size+1) w1 w5):=HBR.out.trans (((Below.refl _ _).alloc (by omega) _).trans hb5);clear hb5 tok2)))
      refine ⟨⟨k+1,by omega,by simp,?_,?_,HB5.out⟩,by simp [intOf];omega⟩
      ·rw [HS.out,hw']
      ·rw [HS.out,hw'];exact hown5
  ·have hlt':¬(k:Int)<(ps.length:Int):=by omega
   have hkk:k=ps.length:=by omega
   have hw':Yaw ps key is val=if (Yd8 ps key val is k).2 then (Yd8 ps key val is k).1 else (Yd8 ps key val is k).1 ++ [(key,val)]:=by
    subst hkk;simp only [Yaw,Yhz,Yd8,List.take_length];rfl
   have hL:=Ym1 ps key val is k (by omega);have HW:=Yh hw';clear hw' hbr;generalize Yd8 ps key val is k=st at hout hL HW;obtain ⟨out,dn⟩:=st;simp only at hout hL
   cases dn with
   | true=>
    go_wp2;go_ret;refine ⟨_,rfl,?_,hB.trans (HBR.out.mono (by omega))⟩;rw [HW.out];exact Yfg hout (by omega)
   | false=>
    have tok1:True:=trivial;go_wp2_with (first
     | (at_builtin;have _t:=tok1;go_must (
      refine Yg9 rfl _ _ rfl (w.heap.size+1) _ out rfl (hout.alloc _) wr.heap.size key val rfl (heap_alloc_new _ _) (by omega) (by simp;omega) ?_;intro v4 w4 hown4 hb4';have HB4:Hid (Below (w.heap.size+1) w1 w4):=HBR.out.trans (((Below.refl _ _).alloc (by omega) _).trans hb4');clear hb4' tok1)))
    go_ret;refine ⟨_,rfl,?_,hB.trans (HB4.out.mono (by omega))⟩;rw [HW.out];exact Yfg hown4 (by omega)
def blt (a b:ByteArray):Prop:=a.toList<b.toList
theorem Yir (a:ByteArray):¬blt a a:=List.lt_irrefl _
theorem Yh0 {c:ByteArray} (h:blt a b) (k:blt b c):blt a c:=List.lt_trans h k
theorem Yk5 (h:¬blt a b) (k:¬blt b a):a=b:=toList_inj (List.le_antisymm (List.not_lt.1 k) (List.not_lt.1 h))
theorem Yp6 (h:blt a b):Op.bytesLess a.toList b.toList=true:=Yp4 h
theorem Yp7 (h:¬blt a b):Op.bytesLess a.toList b.toList=false:=Yp3 h
def Yfh (a b:ByteArray):Int:=if a.toList<b.toList then -1 else if b.toList<a.toList then 1 else 0
theorem Yp8 (h:blt a b):Yfh a b = -1:=if_pos h
theorem Ym3 (h:¬blt a b) (k:blt b a):Yfh a b=1:=(if_neg h).trans (if_pos k)
theorem Ym4 (h:¬blt a b) (k:¬blt b a):Yfh a b=0:=(if_neg h).trans (if_neg k)
theorem Ym5 (a:ByteArray) (w:World):Calls prog 234 #[.string a] w fun e w'=>e=.returned (.bool false)∧w=w':=by
 have e1:(a.toList == a.toList)=true:=by simp
 go_enter func234,ntmps234;go_wp2;go_ret;exact ⟨rfl,rfl⟩
theorem Yvr (a b:ByteArray) (w:World):Calls prog 206 #[.string a,.string b] w fun e w'=>e=.returned (.int .i64 (Yfh a b))∧w=w':=by
 by_cases h1:blt a b
 ·have e1:=Yp6 h1
  have ec:Yfh a b = -1:=Yp8 h1;go_enter func206,ntmps206;go_wp2_with (first | (go_at_call 234;refine (Ym5 _ _).mono ?_;rintro e w' ⟨rfl,rfl⟩))
  go_ret;exact ⟨by rw [ec];rfl,rfl⟩
 ·have e1:=Yp7 h1
  by_cases h2:blt b a
  ·have e2:=Yp6 h2
   have ec:Yfh a b=1:=Ym3 h1 h2;have hne:a≠b:=fun h=>by subst h;exact h1 h2
   have e3:=Yg8 hne;go_enter func206,ntmps206;go_wp2_with (first | (go_at_call 234;refine (Ym5 _ _).mono ?_;rintro e w' ⟨rfl,rfl⟩))
   go_ret;exact ⟨by rw [ec];rfl,rfl⟩
  ·have e2:=Yp7 h2
   have ec:Yfh a b=0:=Ym4 h1 h2;have:=Yk5 h1 h2;subst this;go_enter func206,ntmps206;go_wp2_with (first | (go_at_call 234;refine (Ym5 _ _).mono ?_;rintro e w' ⟨rfl,rfl⟩))
   go_ret;exact ⟨by rw [ec];rfl,rfl⟩
theorem Ym6 (a v b:ByteArray) (w:World):Calls prog 158 #[.agg #[.string a,.string v],.string b] w fun e w'=>e=.returned (.int .i64 (Yfh a b))∧Below w.heap.size w w':=by
 go_enter func158,ntmps158;go_wp2_with (first | (go_at_call 206;refine (Yvr _ _ _).mono ?_;rintro e w' ⟨rfl,rfl⟩))
 go_ret;exact ⟨rfl,(Below.refl _ _).alloc (Nat.le_refl _) _⟩
def Ybi (ps:Yaf):Prop:=∀ i j (hi:i<ps.length) (hj:j<ps.length),i<j→blt ps[i].1 ps[j].1
def Yh1 (ps:Yaf) (key:ByteArray) (i:Nat):Prop:=i≤ps.length∧(∀ m (h:m<ps.length),m<i→blt ps[m].1 key)∧(∀ m (h:m<ps.length),i≤m→¬blt ps[m].1 key)
def Ydo (ps:Yaf) (key:ByteArray) (i:Nat):Bool:=if h:i<ps.length then decide (ps[i].1=key) else false
theorem Yis (base:Nat) (v:Value) (ps:Yaf) (key:ByteArray) (w:World) (hown:w.ownsRow base 43 2 v ps.length (Yad ps)) (hlen:ps.length≤100000) (hr:Ybi ps):
 Calls prog 157 #[v,.string key,.func (.func 158) #[] #[]] w fun e w'=>∃ i:Nat,Yh1 ps key i∧e=.returned (.tuple #[.int .i64 i,.bool (Ydo ps key i)])∧Below w.heap.size w w':=by
 obtain ⟨p,cap,rfl,hmax⟩:=Ya6 hown
 clear hmax
 have hlt0:∀ g,(Value.slice p ps.length cap).ownBlock=some g→g<w.heap.size:=fun g hg=>(hown.lt g hg).2
 go_enter func157,ntmps157
 go_wp2
 go_loopw [9,10] (fun i j wr=>∃ a b:Nat,a≤b∧b≤ps.length∧i=.int .i64 a∧j=.int .i64 b∧(∀ m (h:m<ps.length),m<a→blt ps[m].1 key)∧(∀ m (h:m<ps.length),b≤m→¬blt ps[m].1 key)∧Below w.heap.size w wr) (fun i j _=>(intOf j).toNat - (intOf i).toNat)
 case atStart=>exact ⟨0,ps.length,by omega,by omega,rfl,rfl,fun m h h2=>by omega,fun m h h2=>by omega,Below.refl _ _⟩
 case round=>
  obtain ⟨a,b,hab,hbl,rfl,rfl,hlo,hhi,hbr⟩:=hrel;have HBR:=Yh hbr;have hownr:wr.ownsRow base 43 2 (.slice p ps.length cap) ps.length (Yad ps):=Ybe hown hbr hlt0;have HLO:=Yh hlo;have HHI:=Yh hhi;have HR:=Yh hr;clear hlo hhi hbr;by_cases hlt:a<b
  ·have hlt':(a:Int)<(b:Int):=by omega
   obtain ⟨m,hm1,ham,hmb⟩:∃ m:Nat,((a:Int)+(b:Int)) / 2=(m:Int)∧a≤m∧m<b:=⟨(a+b) / 2,by omega,by omega,by omega⟩;have hmn:m<ps.length:=by omega
   have hmn':(m:Int)<(ps.length:Int):=by omega
   obtain ⟨g,cap',he⟩:=Ybn hownr (by omega);simp only [Value.slice.injEq] at he;obtain ⟨rfl,-,rfl⟩:=he;obtain ⟨hc0,hc1⟩:=Ye2 ps m ps[m] (List.getElem?_eq_getElem hmn);have c0:=Yal hownr hc0;have c1:=Yal hownr hc1;clear hc0 hc1;by_cases hq:blt ps[m].1 key
   ·have hneg:Yfh ps[m].1 key<0:=by rw [Yp8 hq];decide
    have HQ:Hid (∀ k (h:k<ps.length),k<m+1→blt ps[k].1 key):=by
     intro k h hk;by_cases hkm:k=m
     ·subst hkm;exact hq
     ·exact Yh0 (HR.out k m h hmn (by omega)) hq
    generalize ps[m].1=k0 at c0 hneg;generalize ps[m].2=v0 at c1;clear hq;go_wp2_with (first | (go_at_call 158;go_must (refine (Ym6 _ _ _ _).mono ?_;rintro e w2 ⟨rfl,hb2⟩)))
    exact ⟨⟨m+1,b,by omega,by omega,by simp,rfl,HQ.out,HHI.out,HBR.out.trans (hb2.mono HBR.out.size)⟩,by simp [intOf];omega⟩
   ·have hneg:¬Yfh ps[m].1 key<0:=by
     by_cases hq2:blt key ps[m].1
     ·rw [Ym3 hq hq2];decide
     ·rw [Ym4 hq hq2];decide
    have HQ:Hid (∀ k (h:k<ps.length),m≤k→¬blt ps[k].1 key):=by
     intro k h hk hbl;by_cases hkm:k=m
     ·subst hkm;exact hq hbl
     ·exact hq (Yh0 (HR.out m k hmn h (by omega)) hbl)
    generalize ps[m].1=k0 at c0 hneg;generalize ps[m].2=v0 at c1;clear hq;go_wp2_with (first | (go_at_call 158;go_must (refine (Ym6 _ _ _ _).mono ?_;rintro e w2 ⟨rfl,hb2⟩)))
    exact ⟨⟨a,m,by omega,by omega,rfl,by simp,HLO.out,HQ.out,HBR.out.trans (hb2.mono HBR.out.size)⟩,by simp [intOf];omega⟩
  ·have hlt':¬(a:Int)<(b:Int):=by omega
   have hab':b=a:=by omega
   subst hab';have HP:Hid (Yh1 ps key b):=⟨hbl,HLO.out,HHI.out⟩;by_cases hbn:b<ps.length
   ·have hbn':(b:Int)<(ps.length:Int):=by omega
    obtain ⟨g,cap',he⟩:=Ybn hownr (by omega);simp only [Value.slice.injEq] at he;obtain ⟨rfl,-,rfl⟩:=he;obtain ⟨hc0,hc1⟩:=Ye2 ps b ps[b] (List.getElem?_eq_getElem hbn);have c0:=Yal hownr hc0;have c1:=Yal hownr hc1;have HF:Hid (Ydo ps key b=(Yfh ps[b].1 key == 0)):=by
     show _=_;have hn:=HP.out.2.2 b hbn (Nat.le_refl _);by_cases hk:ps[b].1=key
     ·rw [hk,Ym4 (Yir _) (Yir _)];simp [Ydo,hbn,hk]
     ·have h2:blt key ps[b].1:=Classical.byContradiction fun h=>hk (Yk5 hn h)
      rw [Ym3 hn h2];simp [Ydo,hbn,hk]
    clear hc0 hc1;generalize ps[b].1=k0 at c0 HF;generalize ps[b].2=v0 at c1;go_wp2_with (first | (go_at_call 158;go_must (refine (Ym6 _ _ _ _).mono ?_;rintro e w2 ⟨rfl,hb2⟩)))
    go_ret2;exact ⟨b,HP.out,by rw [HF.out];rfl,HBR.out.trans (hb2.mono HBR.out.size)⟩
   ·have hbn':¬(b:Int)<(ps.length:Int):=by omega
    have HF:Hid (Ydo ps key b=false):=by show _=_;simp [Ydo,hbn]
    go_wp2;go_ret2;exact ⟨b,HP.out,by rw [HF.out];rfl,HBR.out⟩
theorem Yk6:∀ (ps:Yaf) (key:ByteArray),(∀ m (h:m<ps.length),ps[m].1≠key)→Yag ps key=(false,ByteArray.empty)
 | [],_,_=>rfl
 | p :: r,key,h=>by
  have h0:p.1≠key:=h 0 (by simp);rw [Yag,if_neg h0];exact Yk6 r key (fun m hm=>h (m+1) (by simp;omega))
theorem Yp9:∀ (ps:Yaf) (key:ByteArray) (i:Nat) (h:i<ps.length),(∀ m (hm:m<ps.length),m<i→ps[m].1≠key)→ps[i].1=key→Yag ps key=(true,ps[i].2)
 | [],_,i,h,_,_=>by simp at h
 | p :: r,key,0,h,_,he=>by rw [Yag,if_pos (by simpa using he)];rfl
 | p :: r,key,i+1,h,hn,he=>by
  have h0:p.1≠key:=hn 0 (by simp) (by omega);rw [Yag,if_neg h0];simpa using Yp9 r key i (by simpa using h) (fun m hm hlt=>hn (m+1) (by simp;omega) (by omega)) (by simpa using he)
theorem Yej (h:blt a b):a≠b:=fun e=>by subst e;exact Yir _ h
theorem Yvs (hp:Yh1 ps key i) (hr:Ybi ps):(∃ h:i<ps.length,Ydo ps key i=true∧ps[i].1=key∧Yag ps key=(true,ps[i].2))∨(Ydo ps key i=false∧Yag ps key=(false,ByteArray.empty)):=by
 by_cases h:i<ps.length
 ·by_cases hk:ps[i].1=key
  ·exact .inl ⟨h,by simp [Ydo,h,hk],hk,Yp9 ps key i h (fun m hm hlt=>Yej (hp.2.1 m hm hlt)) hk⟩
  ·refine .inr ⟨by simp [Ydo,h,hk],Yk6 ps key fun m hm e=>?_⟩
   by_cases hmi:m<i
   ·exact Yej (hp.2.1 m hm hmi) e
   ·have hlt:blt key ps[i].1:=Classical.byContradiction fun hc=>hk (Yk5 (hp.2.2 i h (Nat.le_refl _)) hc)
    by_cases hme:m=i
    ·subst hme;exact hk e
    ·have:=hr i m h hm (by omega)
     rw [e] at this;exact Yir _ (Yh0 hlt this)
 ·refine .inr ⟨by simp [Ydo,h],Yk6 ps key fun m hm e=>?_⟩
  exact Yej (hp.2.1 m hm (by omega)) e
theorem Yit (hi:Yh1 ps key i) (hj:Yh1 ps key j):i=j:=by
 rcases Nat.lt_trichotomy i j with h | h | h
 ·exact absurd (hj.2.1 i (by have:=hj.1;omega) h) (hi.2.2 i (by have:=hj.1;omega) (Nat.le_refl _))
 ·exact h
 ·exact absurd (hi.2.1 j (by have:=hi.1;omega) h) (hj.2.2 j (by have:=hi.1;omega) (Nat.le_refl _))
theorem Yvt {p:ByteArray×ByteArray} {r:Yaf} (h:Ybi (p :: r)):Ybi r:=fun i j hi hj hlt=>by
 exact h (i+1) (j+1) (Nat.succ_lt_succ hi) (Nat.succ_lt_succ hj) (by omega)
theorem Yk7:∀ (ps:Yaf) (key:ByteArray),Ybi ps→∃ i,Yh1 ps key i
 | [],_,_=>⟨0,Nat.le_refl _,fun m h=>by simp at h,fun m h=>by simp at h⟩
 | p :: r,key,hr=>by
  by_cases hp:blt p.1 key
  ·obtain ⟨i,h1,h2,h3⟩:=Yk7 r key (Yvt hr)
   refine ⟨i+1,by simpa using h1,fun m h hm=>?_,fun m h hm=>?_⟩
   ·match m with
    | 0=>exact hp
    | m+1=>simpa using h2 m (by simpa using h) (by omega)
   ·match m with
    | 0=>omega
    | m+1=>simpa using h3 m (by simpa using h) (by omega)
  ·refine ⟨0,by simp,fun m h hm=>by omega,fun m h _ hb=>?_⟩
   match m with
   | 0=>exact hp hb
   | m+1=>exact hp (Yh0 (hr 0 (m+1) (by simp) h (by omega)) hb)
def Yh2 (w:World) (pb:Nat) (turn:Int) (v:Value) (ps:Yaf):Prop:=w.heap[pb]? = some (.cells #[.int .i64 turn,v] 180 (0,0))∧w.ownsRow 0 43 2 v ps.length (Yad ps)
theorem Yvu (pb:Nat) (turn:Int) (v:Value) (ps:Yaf) (key:ByteArray) (w:World) (hp:Yh2 w pb turn v ps) (hlen:ps.length≤100000) (hr:Ybi ps):
 Calls prog 297 #[.pointer (some ⟨pb,0,none⟩),.string key] w fun e w'=>e=.returned (.agg #[.bool (Yag ps key).1,.string (Yag ps key).2])∧Below w.heap.size w w':=by
 obtain ⟨hpb,hown⟩:=hp
 have hpw:pb<w.heap.size:=Yaj hpb
 have hpb1:=(Below.heap_alloc w (.cells #[.bool false,.string ByteArray.empty] 38) pb hpw).trans hpb
 have hown1:=hown.alloc (.cells #[.bool false,.string ByteArray.empty] 38)
 have hnew:=heap_alloc_new w (.cells #[.bool false,.string ByteArray.empty] 38)
 have hB:Below w.heap.size w (w.alloc (.cells #[.bool false,.string ByteArray.empty] 38)):=(Below.refl _ _).alloc (Nat.le_refl _) _
 have cp:w.cell? ⟨pb,1,none⟩=some v:=Yaa (j:=1) hpb rfl
 have hlt0:∀ g,v.ownBlock=some g→g<w.heap.size:=fun g hg=>(hown.lt g hg).2
 have HX:Hid (∀ w1,(w.alloc (.cells #[.bool false,.string ByteArray.empty] 38))=w1→w1.heap[pb]? = some (.cells #[.int .i64 turn,v] 180 (0,0))∧w1.ownsRow 0 43 2 v ps.length (Yad ps)∧w1.heap[w.heap.size]? = some (.cells #[.bool false,.string ByteArray.empty] 38 (0,0))∧Below w.heap.size w w1∧w1.heap.size=w.heap.size+1):=by
  rintro w1 rfl;exact ⟨hpb1,hown1,hnew,hB,by simp⟩
 clear hpb1 hown1 hnew hB hpb hown
 obtain ⟨i,hpos⟩:=Yk7 ps key hr
 have HP:=Yh hpos
 have hfu:=Yvs hpos hr
 have hil:=hpos.1
 clear hpos
 have hcase:(∃ (h:i<ps.length) (p:ByteArray×ByteArray),ps[i]? = some p∧Ydo ps key i=true∧Hid (Yag ps key=(true,p.2)))∨(Ydo ps key i=false∧Hid (Yag ps key=(false,ByteArray.empty))):=by
  rcases hfu with ⟨h,h1,_,h3⟩ | ⟨h1,h2⟩
  ·exact .inl ⟨h,ps[i],List.getElem?_eq_getElem h,h1,h3⟩
  ·exact .inr ⟨h1,h2⟩
 clear hfu
 rcases hcase with ⟨hlt,⟨k0,v0⟩,hpi,hfo,HU⟩ | ⟨hfo,HU⟩
 ·obtain ⟨hc0,hc1⟩:=Ye2 ps i (k0,v0) hpi
  have hlt':(i:Int)<(ps.length:Int):=by omega
  go_enter func297,ntmps297;go_wp2_with (first | (go_at_call 157;go_must (
   obtain ⟨hpb1,hown1,hnew,hB,hz⟩:=HX.out _ rfl;refine (Yis 0 v ps key _ hown1 hlen hr).mono ?_;rintro e w2 ⟨i2,hpos,rfl,hb2⟩;obtain rfl:=Yit HP.out hpos;have hpb2:=(hb2.block pb (by omega)).trans hpb1;have hnew2:=(hb2.block w.heap.size (by omega)).trans hnew;have cp2:w2.cell? ⟨pb,1,none⟩=some v:=Yaa (j:=1) hpb2 rfl;have n0:w2.cell? ⟨w.heap.size,0,none⟩=some (.bool false):=Yaa (j:=0) hnew2 rfl;have n1:w2.cell? ⟨w.heap.size,1,none⟩=some (.string ByteArray.empty):=Yaa (j:=1) hnew2 rfl;have f0:=Yah 0 hnew2;have f1:=Yah 1 hnew2;have hown2:=Ybe hown1 hb2 (fun g hg=>by have:=hlt0 g hg;omega);have HB2:Hid (Below w.heap.size w w2):=hB.trans (hb2.mono hB.size);have HN:=Yh hnew2;obtain ⟨g,cap,rfl⟩:=Ybn hown2 (by omega);have c0:=Yal hown2 hc0;have c1:=Yal hown2 hc1;have HF:Hid (((w2.setCell ⟨w.heap.size,0,none⟩ (.bool true)).setCell ⟨w.heap.size,1,none⟩ (.string v0)).heap[w.heap.size]? = some (.cells #[.bool true,.string v0] 38 (0,0))):=by
    exact (Yak _ _ 1 _ _ _ (Yak _ _ 0 _ _ _ HN.out)).trans rfl
   clear hpb1 hown1 hnew hB hz hpb2 hnew2 hb2 hpos cp HX)))
  refine bodyPost_ret (v:=.agg #[.bool true,.string v0]) ?_ rfl ⟨by rw [HU.out],?_⟩
  ·exact results_cell_row Tryz.results297 _ _ w.heap.size 38 #[.bool true,.string v0] (0,0) _ rfl HF.out underlying38 rfl (by kernel_rfl)
  ·exact (HB2.out.setCell (p:=⟨w.heap.size,0,none⟩) (Nat.le_refl _) _).setCell (p:=⟨w.heap.size,1,none⟩) (Nat.le_refl _) _
 ·go_enter func297,ntmps297
  go_wp2_with (first | (go_at_call 157;go_must (
   obtain ⟨hpb1,hown1,hnew,hB,hz⟩:=HX.out _ rfl;refine (Yis 0 v ps key _ hown1 hlen hr).mono ?_;rintro e w2 ⟨i2,hpos,rfl,hb2⟩;obtain rfl:=Yit HP.out hpos;have hpb2:=(hb2.block pb (by omega)).trans hpb1;have hnew2:=(hb2.block w.heap.size (by omega)).trans hnew;have cp2:w2.cell? ⟨pb,1,none⟩=some v:=Yaa (j:=1) hpb2 rfl;have n0:w2.cell? ⟨w.heap.size,0,none⟩=some (.bool false):=Yaa (j:=0) hnew2 rfl;have n1:w2.cell? ⟨w.heap.size,1,none⟩=some (.string ByteArray.empty):=Yaa (j:=1) hnew2 rfl;have f0:=Yah 0 hnew2;have f1:=Yah 1 hnew2;have hown2:=Ybe hown1 hb2 (fun g hg=>by have:=hlt0 g hg;omega);have HB2:Hid (Below w.heap.size w w2):=hB.trans (hb2.mono hB.size);have HN:=Yh hnew2;have HF:Hid (((w2.setCell ⟨w.heap.size,0,none⟩ (.bool false)).setCell ⟨w.heap.size,1,none⟩ (.string ByteArray.empty)).heap[w.heap.size]? = some (.cells #[.bool false,.string ByteArray.empty] 38 (0,0))):=by
    exact (Yak _ _ 1 _ _ _ (Yak _ _ 0 _ _ _ HN.out)).trans rfl
   clear hpb1 hown1 hnew hB hz hpb2 hnew2 hb2 hpos cp HX)))
  refine bodyPost_ret (v:=.agg #[.bool false,.string ByteArray.empty]) ?_ rfl ⟨by rw [HU.out],?_⟩
  ·exact results_cell_row Tryz.results297 _ _ w.heap.size 38 #[.bool false,.string ByteArray.empty] (0,0) _ rfl HF.out underlying38 rfl (by kernel_rfl)
  ·exact (HB2.out.setCell (p:=⟨w.heap.size,0,none⟩) (Nat.le_refl _) _).setCell (p:=⟨w.heap.size,1,none⟩) (Nat.le_refl _) _
theorem Yjx (ps:Yaf):∀ u∈Yad ps,u.oneCell'=true:=by
 intro u hu;simp only [Yad,List.mem_flatMap] at hu;obtain ⟨p,_,hp⟩:=hu;simp at hp;rcases hp with rfl | rfl <;> rfl
theorem Yvv (h:w.ownsRow base e size (.slice (some ⟨g,0,none⟩) n cap) n xs) {j:Nat} (hj:j<cap*size):(w.cell? ⟨g,j,none⟩).isSome=true∧w.frozen? ⟨g,j,none⟩=false:=by
 rcases h.2 with ⟨h1,_⟩ | ⟨g',cap',cur,h1,h2,h3,h4,h5,h6,h7⟩
 ·cases h1
 ·simp at h1
  obtain ⟨rfl,rfl⟩:=h1;exact ⟨by rw [Yaa h3 (Array.getElem?_eq_getElem (show j<cur.size by omega))];rfl,Yah _ h3⟩
theorem Yjy (h:w.ownsRow base e size (.slice (some ⟨g,0,none⟩) n cap) n xs):
 ∃ rest:List Value,w.heap[g]? = some (.cells (xs ++ rest).toArray e (0,0))∧xs.length=n*size∧xs.length+rest.length=cap*size∧n≤cap∧cap≤maxLen:=by
 rcases h.2 with ⟨h1,_⟩ | ⟨g',cap',cur,h1,h2,h3,h4,h5,h6,h7⟩
 ·cases h1
 ·simp at h1
  obtain ⟨rfl,rfl⟩:=h1;refine ⟨cur.toList.drop (n*size),?_,h.1,?_,h4,h5⟩
  ·rw [←h7,List.take_append_drop,Array.toArray_toList];exact h3
  ·have hle:n*size≤cur.toList.length:=by
    rw [←h7] at h;have:=h.1;simp at this ⊢;omega
   rw [h.1,List.length_drop];simp at hle ⊢;omega
theorem Yjz {rest:List Value} (hb:base≤g) (hg:w.heap[g]? = some (.cells (xs ++ rest).toArray e (0,0))) (h1:xs.length=n*size) (h2:xs.length+rest.length=cap*size) (h3:n≤cap) (h4:cap≤maxLen):
 w.ownsRow base e size (.slice (some ⟨g,0,none⟩) n cap) n xs:=
 ⟨h1,.inr ⟨g,cap,_,rfl,hb,hg,h3,h4,by simpa using h2,by rw [←h1];simp⟩⟩
theorem Yh3 (X Y Z S:List Value) (h:w.heap[g]? = some (.cells (X ++ Y ++ Z).toArray t (0,0))) (hl:S.length=Y.length):(w.setCells g X.length S).heap[g]? = some (.cells (X ++ S ++ Z).toArray t (0,0)):=by
 induction S generalizing w X Y with
 | nil=>
  obtain rfl:Y=[]:=List.eq_nil_of_length_eq_zero (by simpa using hl.symm);exact h
 | cons v r ih=>
  match Y with
  | []=>simp at hl
  | y :: Y=>
   have h1:=Yak w g X.length v _ t h;have h2:((X ++ y :: Y ++ Z).toArray.setIfInBounds X.length v)=((X ++ [v]) ++ Y ++ Z).toArray:=by
    apply Array.toList_inj.1;simp
   rw [h2] at h1;have:=ih (X ++ [v]) Y h1 (by simpa using hl);simp only [World.setCells];simpa using this
theorem Yiu (S:List Value) (w:World) (g o:Nat):(∀ k,k≠g→(w.setCells g o S).heap[k]? = w.heap[k]?)∧Below 0 w (w.setCells g o S):=by
 induction S generalizing w o with
 | nil=>exact ⟨fun _ _=>rfl,Below.refl _ _⟩
 | cons v r ih=>
  obtain ⟨h1,h2⟩:=ih (w.setCell ⟨g,o,none⟩ v) (o+1);exact ⟨fun k hk=>(h1 k hk).trans (Below.heap_setCell _ _ _ _ hk),((Below.refl _ _).setCell (p:=⟨g,o,none⟩) (by simp) _).trans h2⟩
theorem Yqa (w:World) (ty:TypeId) (g o c:Nat) (t0 t1:Value) (h0:w.cell? ⟨g,o,none⟩=some t0) (h1:w.cell? ⟨g,o+1,none⟩=some t1) (f0:w.frozen? ⟨g,o,none⟩=false) (f1:w.frozen? ⟨g,o+1,none⟩=false):
 Sem.run prog (Builtin.clear_ #[34] ty #[.slice (some ⟨g,o,none⟩) 1 c]) w=.ok (.tuple #[]) ((w.setCell ⟨g,o,none⟩ (.string ByteArray.empty)).setCell ⟨g,o+1,none⟩ (.string ByteArray.empty)):=by
 obtain ⟨i0,hi0,hz0,hz1,hz2⟩:=info_parts Ygk
 have hv:(zeroValue 43).run prog w=.ok (.agg #[.string ByteArray.empty,.string ByteArray.empty]) w:=by
  simp [zeroValue,typeInfo,hi0,hz0]
 have hzc:(Builtin.zeroCells (Value.agg #[.string ByteArray.empty,.string ByteArray.empty]).cells 1).toList=[.string ByteArray.empty,.string ByteArray.empty]:=by
  simp [Builtin.zeroCells,Value.cells];rfl
 have hst:=run_storeCells_cells (P:=prog) g o [.string ByteArray.empty,.string ByteArray.empty] 0 w
  (by intro j hj;match j,hj with | 0,_=>(simp [h0]) | 1,_=>(simp [h1]))
  (by intro j hj;match j,hj with | 0,_=>(simpa using f0) | 1,_=>(simpa using f1))
  (by intro v hv;simp at hv;subst hv;rfl)
 simp only [Nat.add_zero,World.setCells] at hst
 simp [Builtin.clear_,run_underlying underlying34,hv,hzc,hst]
theorem Yvw (g cap a r:Nat) (A B:Yaf) (p:ByteArray×ByteArray) (w:World) (hA:A.length=a) (hB:B.length=r) (hown:w.ownsRow 0 43 2 (.slice (some ⟨g,0,none⟩) (a+1+r) cap) (a+1+r) (Yad (A ++ p :: B))) (hlen:a+1+r≤100000):
 Calls prog 159 #[.slice (some ⟨g,0,none⟩) (a+1+r) cap,.int .i64 a,.int .i64 ((a:Int)+1)] w fun e w'=>e=.returned (.slice (some ⟨g,0,none⟩) (a+r) cap) ∧
  w'.ownsRow 0 43 2 (.slice (some ⟨g,0,none⟩) (a+r) cap) (a+r) (Yad (A ++ B))∧(∀ k,k<w.heap.size→k≠g→w'.heap[k]? = w.heap[k]?)∧Below 0 w w':=by
 obtain ⟨i0,hi0,hz0,hz1,hz2⟩:=info_parts Ygk
 obtain ⟨rest,hg,hl1,hl2,hcap,hmax⟩:=Yjy hown
 have hpc:Yad (A ++ p :: B)=Yad A ++ [Value.string p.1,Value.string p.2] ++ Yad B:=by simp [Yad]
 have HG:Hid (w.heap[g]? = some (.cells (Yad A ++ ([Value.string p.1,Value.string p.2] ++ Yad B) ++ rest).toArray 43 (0,0))):=by
  show _=_;rw [hg,hpc];simp
 have HL:Hid ((Yad A).length=a*2∧(Yad B).length=r*2∧rest.length+(a+1+r)*2=cap*2∧cap≤maxLen):=⟨by rw [Yds,hA],by rw [Yds,hB],by omega,hmax⟩
 have HOWN:=Yh hown
 obtain ⟨c,rfl⟩:∃ c,cap=a+1+c:=⟨cap - (a+1),by omega⟩
 have hrc:r≤c:=by omega
 clear hown hg hpc hl1 hl2 hcap hmax hA hB
 have e1:((a:Int) == (a:Int)+1)=false:=by simp;omega
 have e2:(a:Int)≤(a:Int)+1+(r:Int):=by omega
 have e3:(a:Int)+1≤(a:Int)+1+(r:Int):=by omega
 have e4:(0:Int)≤(a:Int)+1:=by omega
 have e5:(a:Int)≤(a:Int)+1:=by omega
 have e6:(a:Int)+1+(r:Int)≤(a:Int)+1+(c:Int):=by omega
 have e7:(a:Int)≤(a:Int)+1+(c:Int):=by omega
 have e8:a≤a+1+c:=by omega
 have e9:(a:Int)+1+(r:Int)≤100000:=by omega
 go_enter func159,ntmps159
 go_wp2_with (at_builtin;fail)
 have HC1:Hid (∀ u∈Yad B,u.oneCell'=true):=Yjx B
 have HSP:Hid (∀ j,j<(Yad B).length→(w.cell? ⟨g,0+a*2+j,none⟩).isSome=true∧w.frozen? ⟨g,0+a*2+j,none⟩=false):=by
  intro j hj;rw [HL.out.2.1] at hj;exact Yvv HOWN.out (by omega)
 have HCC:Hid (∀ j u,(Yad B)[j]? = some u→w.cell? ((⟨g,(a+1)*2,none⟩:Addr).add j)=some u):=fun j u hu=>by
  rw [Addr.add_mid];refine Yal HOWN.out ?_;have hp:Yad (A ++ p :: B)=(Yad A ++ [Value.string p.1,Value.string p.2]) ++ Yad B:=by simp [Yad]
  rw [hp,List.getElem?_append_right (by have:=HL.out.1;simp;omega)];have hx:(a+1)*2+j - (Yad A ++ [Value.string p.1,Value.string p.2]).length=j:=by have:=HL.out.1;simp;omega
  rw [hx];exact hu
 have HW:Hid (∀ t0 t1,([Value.string p.1,Value.string p.2] ++ Yad B).drop (r*2)=[t0,t1]→(w.drew.setCells g (a*2) (Yad B)).heap[g]? = some (.cells ((Yad A ++ Yad B) ++ [t0,t1] ++ rest).toArray 43 (0,0))):=by
  intro t0 t1 ht;have:=Yh3 (w:=w.drew) (g:=g) (t:=43) (Yad A) (([Value.string p.1,Value.string p.2] ++ Yad B).take (r*2)) ([t0,t1] ++ rest) (Yad B) ?_ (by rw [List.length_take];have:=HL.out.2.1;simp;omega)
  ·rw [HL.out.1] at this
   rw [this];simp
  ·refine HG.out.trans ?_
   rw [←ht];congr 3;simp only [List.append_assoc];rw [←List.append_assoc (List.take _ _),List.take_append_drop];simp
 obtain ⟨t0,t1,ht⟩:∃ t0 t1,([Value.string p.1,Value.string p.2] ++ Yad B).drop (r*2)=[t0,t1]:=by
  have hl:(([Value.string p.1,Value.string p.2] ++ Yad B).drop (r*2)).length=2:=by rw [List.length_drop];have:=HL.out.2.1;simp;omega
  match h:([Value.string p.1,Value.string p.2] ++ Yad B).drop (r*2),hl with
  | [t0,t1],_=>exact ⟨t0,t1,rfl⟩
 have HW1:Hid ((w.drew.setCells g (a*2) (Yad B)).heap[g]? = some (.cells ((Yad A ++ Yad B) ++ [t0,t1] ++ rest).toArray 43 (0,0))):=HW.out t0 t1 ht
 have HFR:=Yh (Yiu (Yad B) w.drew g (a*2))
 clear HW ht
 have HFIN:∀ w1:World,w1.heap[g]? = some (.cells ((Yad A ++ Yad B) ++ [t0,t1] ++ rest).toArray 43 (0,0))→(∀ k,k≠g→w1.heap[k]? = w.heap[k]?)→Below 0 w w1 →
  ((w1.setCell ⟨g,(a+r)*2,none⟩ (.string ByteArray.empty)).setCell ⟨g,(a+r)*2+1,none⟩ (.string ByteArray.empty)).ownsRow 0 43 2 (.slice (some ⟨g,0,none⟩) (a+r) (a+1+c)) (a+r) (Yad (A ++ B)) ∧
  (∀ k,k<w.heap.size→k≠g→((w1.setCell ⟨g,(a+r)*2,none⟩ (.string ByteArray.empty)).setCell ⟨g,(a+r)*2+1,none⟩ (.string ByteArray.empty)).heap[k]? = w.heap[k]?)∧Below 0 w ((w1.setCell ⟨g,(a+r)*2,none⟩ (.string ByteArray.empty)).setCell ⟨g,(a+r)*2+1,none⟩ (.string ByteArray.empty)):=by
  intro w1 h1 h2 h3
  obtain ⟨f1,f2⟩:=Yiu [Value.string ByteArray.empty,.string ByteArray.empty] w1 g ((a+r)*2)
  have hL:(Yad A ++ Yad B).length=(a+r)*2:=by rw [List.length_append,HL.out.1,HL.out.2.1];omega
  have h4:=Yh3 (w:=w1) (g:=g) (t:=43) (Yad A ++ Yad B) [t0,t1] rest [Value.string ByteArray.empty,.string ByteArray.empty] h1 rfl
  rw [hL] at h4
  refine ⟨?_,fun k hk hne=>(f1 k hne).trans (h2 k hne),h3.trans f2⟩
  refine Yjz (rest:=[Value.string ByteArray.empty,.string ByteArray.empty] ++ rest) (Nat.zero_le _) ?_ ?_ ?_ (by omega) HL.out.2.2.2
  ·rw [Yg5,←List.append_assoc];exact h4
  ·rw [Yg5];exact hL
  ·rw [Yg5,hL];have:=HL.out.2.2.1;simp;omega
 have HF:=Yh HFIN
 clear HFIN
 have q1:a+1+r - (a+r)=1:=by omega
 have q2:a+r≤a+1+r:=by omega
 have q3:(a:Int)+(r:Int)≤(a:Int)+1+(r:Int):=by omega
 have q4:a+1+r≤a+1+c:=by omega
 have q5:(0:Int)≤(a:Int)+(r:Int):=by omega
 by_cases h8:c=0
 ·have hr0:r=0:=by omega
  subst h8;subst hr0;have HB:Hid (Yad B=[]):=List.eq_nil_of_length_eq_zero (by have:=HL.out.2.1;omega);go_region_law (first
   | (
    refine step_append_room ?hgd (.tmp 22) (.tmp 25) 34 ?hop 43 i0 2 underlying34 hi0 hz1 g 0 a (a+1) ?hs ⟨g,0,none⟩ 0 0 (Yad B) ?hx ?hn ?hc HC1.out ?hroom HSP.out ?_
    case hgd=>rfl
    case hop=>rfl
    case hs=>go_simp
    case hx=>go_simp
    case hn=>rw [HB.out];rfl
    case hroom=>omega
    case hc=>intro j u hu;rw [HB.out] at hu;simp at hu))
  have hg1:=HW1.out;obtain ⟨hf1,hf2⟩:=HFR.out;have hf3:Below 0 w (w.drew.setCells g (a*2) (Yad B)):=(Below.refl _ _).drew.trans hf2;have hf4:∀ k,k≠g→(w.drew.setCells g (a*2) (Yad B)).heap[k]? = w.heap[k]?:=hf1;revert hg1 hf3 hf4;generalize w.drew.setCells g (a*2) (Yad B)=w1;intro hg1 hf3 hf4;have o123:=HF.out w1 hg1 hf4 hf3;simp only [Nat.add_zero] at o123;obtain ⟨o1,o2,o3⟩:=o123;have hL:(Yad A ++ Yad B).length=a*2:=by rw [List.length_append,HL.out.1,HL.out.2.1];omega
  have c0:w1.cell? ⟨g,a*2,none⟩=some t0:=Yaa hg1 (by simp only [List.getElem?_toArray];rw [List.append_assoc,List.getElem?_append_right (by omega),hL];simp);have c1:w1.cell? ⟨g,a*2+1,none⟩=some t1:=Yaa hg1 (by simp only [List.getElem?_toArray];rw [List.append_assoc,List.getElem?_append_right (by omega),hL];simp);have fz0:=Yah (a*2) hg1;have fz1:=Yah (a*2+1) hg1;have HO:Hid _:=Yh (And.intro o1 (And.intro o2 o3));have hcl:=fun ty cc=>Yqa w1 ty g (a*2) cc t0 t1 c0 c1 fz0 fz1
  clear o1 o2 o3 hg1 hf3 hf4 hf1 hf2 HW1 HFR c0 c1 fz0 fz1;go_wp2;go_ret;exact ⟨rfl,HO.out⟩
 ·have h9:¬(a+1+c=a+1):=by omega
  go_region_law (first
   | (
    refine step_append_room ?hgd (.tmp 22) (.tmp 25) 34 ?hop 43 i0 2 underlying34 hi0 hz1 g 0 a (a+1+c) ?hs ⟨g,(a+1)*2,none⟩ r c (Yad B) ?hx HL.out.2.1 HCC.out HC1.out ?hroom HSP.out ?_
    case hgd=>rfl
    case hop=>rfl
    case hs=>go_simp
    case hx=>go_simp
    case hroom=>omega))
  have hg1:=HW1.out;obtain ⟨hf1,hf2⟩:=HFR.out;have hf3:Below 0 w (w.drew.setCells g (a*2) (Yad B)):=(Below.refl _ _).drew.trans hf2;have hf4:∀ k,k≠g→(w.drew.setCells g (a*2) (Yad B)).heap[k]? = w.heap[k]?:=hf1;revert hg1 hf3 hf4;generalize w.drew.setCells g (a*2) (Yad B)=w1;intro hg1 hf3 hf4;obtain ⟨o1,o2,o3⟩:=HF.out w1 hg1 hf4 hf3;have hL:(Yad A ++ Yad B).length=(a+r)*2:=by rw [List.length_append,HL.out.1,HL.out.2.1];omega
  have c0:w1.cell? ⟨g,(a+r)*2,none⟩=some t0:=Yaa hg1 (by simp only [List.getElem?_toArray];rw [List.append_assoc,List.getElem?_append_right (by omega),hL];simp);have c1:w1.cell? ⟨g,(a+r)*2+1,none⟩=some t1:=Yaa hg1 (by simp only [List.getElem?_toArray];rw [List.append_assoc,List.getElem?_append_right (by omega),hL];simp);have fz0:=Yah ((a+r)*2) hg1;have fz1:=Yah ((a+r)*2+1) hg1;have HO:Hid _:=Yh (And.intro o1 (And.intro o2 o3));have hcl:=fun ty cc=>Yqa w1 ty g ((a+r)*2) cc t0 t1 c0 c1 fz0 fz1
  clear o1 o2 o3 hg1 hf3 hf4 hf1 hf2 HW1 HFR c0 c1 fz0 fz1;go_wp2;go_ret;exact ⟨rfl,HO.out⟩
abbrev Ycl:=List (ByteArray×Bool×ByteArray)
def Yco (ws:Ycl):List Value:=ws.flatMap fun p=>[.string p.1,.bool p.2.1,.string p.2.2]
theorem Yvx (ps qs:Ycl):Yco (ps ++ qs)=Yco ps ++ Yco qs:=by simp [Yco]
theorem Yiv:∀ (ws:Ycl) (i:Nat) (p:ByteArray×Bool×ByteArray),ws[i]? = some p→(Yco ws)[i*3]? = some (.string p.1)∧(Yco ws)[i*3+1]? = some (.bool p.2.1)∧(Yco ws)[i*3+2]? = some (.string p.2.2)
 | [],i,p,h=>by simp at h
 | q :: r,0,p,h=>by simp at h;subst h;simp [Yco]
 | q :: r,i+1,p,h=>by
  have:=Yiv r i p (by simpa using h);simp only [Yco,List.flatMap_cons,Nat.succ_mul,List.cons_append,List.nil_append,Nat.add_assoc] at *;exact this
def Yb3:Ycl→ByteArray→Option (Bool×ByteArray)
 | [],_=>none
 | p :: r,k=>if p.1=k then some p.2 else Yb3 r k
theorem Ygl {P:Program} {fn:Func} {p u:Tmp} {ty:TypeId} (h:fn.results=#[.cell p ty,.tmp u]) (tmps:Array Value) (w:World) (g:Nat) (t:TypeId) (cs:Array Value) (fr:Nat×Nat) (d:TypeDesc) (v:Value)
 (hp:tmps.getD p undef=.pointer (some ⟨g,0,none⟩)) (hg:w.heap[g]? = some (.cells cs t fr))
 (hu:P.underlying ty=some d) (hd:(match d with | .struct _ | .array _ _=>true | _=>false)=true) (hi:(P.info? ty).map (·.size)=some cs.size) (hv:tmps.getD u undef=v):
 (results fn tmps).run P w=.ok (.tuple #[.agg cs,v]) w:=by
 rw [results_cell_tmp h,hp,hv]
 simp [asAddr,run_loadVar_row w g t ty cs fr d hg hu hd hi]
theorem Yk8 (b o:Nat) (vw:Value) (ws:Ycl) (key:ByteArray) (w:World) (hc:w.cell? ⟨b,o+3,none⟩=some vw) (hown:w.ownsRow 0 206 3 vw ws.length (Yco ws)) (hlen:ws.length≤100000):
 Calls prog 135 #[.pointer (some ⟨b,o,none⟩),.string key] w fun e w'=>e=.returned (.tuple #[.agg #[.bool ((Yb3 ws key).getD (false,ByteArray.empty)).1,.string ((Yb3 ws key).getD (false,ByteArray.empty)).2],.bool (Yb3 ws key).isSome])∧Below w.heap.size w w':=by
 obtain ⟨p,cap,rfl,hmax⟩:=Ya6 hown
 clear hmax
 have hbw:b<w.heap.size:=World.block_lt_of_cell? w _ hc
 have HX:Hid (∀ w1,(w.alloc (.cells #[.bool false,.string ByteArray.empty] 38))=w1→w1.cell? ⟨b,o+3,none⟩=some (.slice p ws.length cap)∧w1.ownsRow 0 206 3 (.slice p ws.length cap) ws.length (Yco ws)∧w1.heap[w.heap.size]? = some (.cells #[.bool false,.string ByteArray.empty] 38 (0,0))∧Below w.heap.size w w1):=by
  rintro w1 rfl;exact ⟨(((Below.refl _ _).alloc (Nat.le_refl _) _).cell hbw).trans hc,hown.alloc _,heap_alloc_new w _,(Below.refl _ _).alloc (Nat.le_refl _) _⟩
 go_enter func135,ntmps135
 go_wp2
 change Code.wp _ _ _ _ (w.alloc (.cells #[.bool false,.string ByteArray.empty] 38))
 obtain ⟨hc1,hown1,hnew,hB⟩:=HX.out _ rfl
 revert hc1 hown1 hnew hB
 generalize w.alloc (.cells #[.bool false,.string ByteArray.empty] 38)=w1
 intro hc1 hown1 hnew hB
 have n0:w1.cell? ⟨w.heap.size,0,none⟩=some (.bool false):=Yaa hnew rfl
 have n1:w1.cell? ⟨w.heap.size,1,none⟩=some (.string ByteArray.empty):=Yaa hnew rfl
 have f0:=Yah 0 hnew
 have f1:=Yah 1 hnew
 have HN:=Yh hnew
 have HB:=Yh hB
 clear hnew hB hown HX hc
 go_loopw [6] (fun i wr=>∃ k:Nat,k≤ws.length∧i=.int .i64 k∧wr=w1∧Yb3 ws key=Yb3 (ws.drop k) key) (fun i _=>ws.length - (intOf i).toNat)
 case atStart=>exact ⟨0,by omega,rfl,rfl,by simp⟩
 case round=>
  obtain ⟨k,hk,rfl,rfl,hu⟩:=hrel;by_cases hlt:k<ws.length
  ·have hlt':(k:Int)<(ws.length:Int):=by omega
   obtain ⟨g,cap',he⟩:=Ybn hown1 (by omega);simp only [Value.slice.injEq] at he;obtain ⟨rfl,-,rfl⟩:=he;obtain ⟨d0,d1,d2⟩:=Yiv ws k ws[k] (List.getElem?_eq_getElem hlt);have c0:=Yal hown1 d0;have c1:=Yal hown1 d1;have c2:=Yal hown1 d2;have hu1:Yb3 ws key=if ws[k].1=key then some ws[k].2 else Yb3 (ws.drop (k+1)) key:=by
    rw [hu,List.drop_eq_getElem_cons hlt];rfl
   clear hu d0 d1 d2;generalize ws[k]=pk at c0 c1 c2 hu1;obtain ⟨k0,b0,v0⟩:=pk;simp only at c0 c1 c2 hu1;by_cases hkey:k0=key
   ·subst hkey
    rw [if_pos rfl] at hu1;have HU:=Yh hu1;have m0:=Yak wr w.heap.size 0 (.bool b0) _ _ HN.out;have m1:=Yak _ w.heap.size 1 (.string v0) _ _ m0;have HF:Hid (((wr.setCell ⟨w.heap.size,0,none⟩ (.bool b0)).setCell ⟨w.heap.size,1,none⟩ (.string v0)).heap[w.heap.size]? = some (.cells #[.bool b0,.string v0] 38 (0,0))):=m1.trans rfl;clear m0 m1 hu1;go_wp2;refine bodyPost_ret (v:=.tuple #[.agg #[.bool b0,.string v0],.bool true]) ?_ rfl ⟨by rw [HU.out];rfl,?_⟩
    ·exact Ygl Tryz.results135 _ _ w.heap.size 38 #[.bool b0,.string v0] (0,0) _ _ rfl HF.out underlying38 rfl (by kernel_rfl) rfl
    ·exact (HB.out.setCell (p:=⟨w.heap.size,0,none⟩) (Nat.le_refl _) _).setCell (p:=⟨w.heap.size,1,none⟩) (Nat.le_refl _) _
   ·rw [if_neg hkey] at hu1
    have hke:=Yg8 hkey;go_wp2;exact ⟨⟨k+1,by omega,by simp,trivial,hu1⟩,by simp [intOf];omega⟩
  ·have hlt':¬(k:Int)<(ws.length:Int):=by omega
   have hu1:Yb3 ws key=none:=by rw [hu,List.drop_eq_nil_of_le (by omega)];rfl
   have HU:=Yh hu1;clear hu hu1;have HF:Hid (((wr.setCell ⟨w.heap.size,0,none⟩ (.bool false)).setCell ⟨w.heap.size,1,none⟩ (.string ByteArray.empty)).heap[w.heap.size]? = some (.cells #[.bool false,.string ByteArray.empty] 38 (0,0))):=by
    exact (Yak _ _ 1 _ _ _ (Yak _ _ 0 _ _ _ HN.out)).trans rfl
   go_wp2;refine bodyPost_ret (v:=.tuple #[.agg #[.bool false,.string ByteArray.empty],.bool false]) ?_ rfl ⟨by rw [HU.out];rfl,?_⟩
   ·exact Ygl Tryz.results135 _ _ w.heap.size 38 #[.bool false,.string ByteArray.empty] (0,0) _ _ rfl HF.out underlying38 rfl (by kernel_rfl) rfl
   ·exact (HB.out.setCell (p:=⟨w.heap.size,0,none⟩) (Nat.le_refl _) _).setCell (p:=⟨w.heap.size,1,none⟩) (Nat.le_refl _) _
end Go.Proofs.YtihbngfbcnojcaaGreat
