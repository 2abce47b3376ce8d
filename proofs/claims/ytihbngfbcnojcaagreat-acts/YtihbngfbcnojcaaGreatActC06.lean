import Derived.Test.YtihbngfbcnojcaaGreatActC05
import Derived.Deep.WholeRow
import Derived.RangeFuncNested
import Derived.RangeFuncBound
import Derived.RangeFuncCalls
import Derived.RangeFuncLeaves
import Derived.Shelf.Abstract
import Derived.Shelf.RegionOpen
import Derived.WalkKit
import Derived.OwnWalkIn
import Derived.TacticsInMore
import Derived.LoopNIn
import Derived.LoopIn
import Derived.Deep.CutRange
import Derived.Deep.MidRow
set_option maxRecDepth 100000
set_option maxHeartbeats 8000000
namespace Go.Proofs.YtihbngfbcnojcaaGreat
open Go.RowKit Tryz
variable {w:World}
def Ych (C:Array Value):Nat→List Value→Array Value
 | _,[]=>C
 | o,v :: r=>Ych (C.setIfInBounds o v) (o+1) r
theorem Yir:∀ (S:List Value) (C:Array Value) (o:Nat),(Ych C o S).size=C.size
 | [],_,_=>rfl
 | v :: r,C,o=>by rw [Ych,Yir r];simp
theorem Yhz:∀ (S:List Value) (w:World) (b o:Nat) (C:Array Value) (t:TypeId),w.heap[b]? = some (.cells C t (0,0))→(w.setCells b o S).heap[b]? = some (.cells (Ych C o S) t (0,0))
 | [],_,_,_,_,_,h=>h
 | v :: r,w,b,o,C,t,h=>Yhz r _ b (o+1) _ t (Yak w b o v C t h)
theorem Ygn:∀ (S:List Value) (w:World) (b o k:Nat),k≠b→(w.setCells b o S).heap[k]? = w.heap[k]?
 | [],_,_,_,_,_=>rfl
 | _ :: r,_,b,o,k,h=>(Ygn r _ b (o+1) k h).trans (Below.heap_setCell _ _ _ _ h)
theorem Yp8:∀ (S:List Value) (w0 w:World) (b o:Nat),Below 0 w0 w→Below 0 w0 (w.setCells b o S)
 | [],_,_,_,_,h=>h
 | _ :: r,w0,w,b,o,h=>Yp8 r w0 _ b (o+1) (h.setCell (p:=⟨b,o,none⟩) (by simp) _)
def Ybp (D:Array Value) (ws:List (Nat×List Value)):Array Value:=ws.foldl (fun D p=>Ych D (p.1*64) p.2) D
theorem Yp9 (D:Array Value) (ws:List (Nat×List Value)) (p:Nat×List Value):Ybp D (ws ++ [p])=Ych (Ybp D ws) (p.1*64) p.2:=by simp [Ybp,List.foldl_append]
theorem Yh0 (ws:List (Nat×List Value)):∀ D:Array Value,(Ybp D ws).size=D.size:=by
 induction ws with
 | nil=>intro D;rfl
 | cons p r ih=>intro D;show (Ybp (Ych D _ _) r).size=_;rw [ih,Yir]
def Ycs (ws:List (Nat×List Value)):List Value:=ws.flatMap fun p=>Value.int .i64 (p.1:Int) :: p.2
theorem Ym4:∀ (ws:List (Nat×List Value)),(∀ p∈ws,p.2.length=64)→∀ (k:Nat) (p:Nat×List Value),ws[k]? = some p→∀ j u,(Value.int .i64 (p.1:Int) :: p.2)[j]? = some u→(Ycs ws)[k*65+j]? = some u
 | [],_,k,p,h=>by simp at h
 | q :: r,hl,0,p,h=>by
  intro j u hu;simp at h;subst h;have hj:=(List.getElem?_eq_some_iff.1 hu).1;rw [Ycs,List.flatMap_cons,List.getElem?_append_left (by simpa using hj)];simpa using hu
 | q :: r,hl,k+1,p,h=>by
  intro j u hu;have h64:=hl q (by simp);have:=Ym4 r (fun p hp=>hl p (by simp [hp])) k p (by simpa using h) j u hu;rw [Ycs,List.flatMap_cons,List.getElem?_append_right (by simp [h64];omega)];simp only [List.length_cons,h64];rw [show (k+1)*65+j - (64+1)=k*65+j by omega];exact this
def Ydn (ws:List (Nat×List Value)):Prop:=∀ p∈ws,p.1<434∧p.2.length=64∧∀ u∈p.2,u.oneCell'=true
theorem Ym5:(prog.info? 143).map (·.size)=some 65:=by kernel_rfl
theorem Yj0:(prog.info? 98).map (·.size)=some 64:=by kernel_rfl
theorem Ym6 {P:Program} {ops:Array Oper} {o:Oper} {a:Act} {K:Act→World→Prop} {Q:Exit→Act→World→Prop} {E:Prop} (hgd:o.guard=none) (ty:TypeId) (x y:Operand) (ho:o.op=.store ty x y)
 (b off:Nat) (cells:Array Value) (hx:a.eval x=.pointer (some ⟨b,off,none⟩)) (hy:a.eval y=.agg cells)
 (ht:w.there b off cells.size) (hi:(P.info? ty).map (·.size)=some cells.size) (h1:cells.all (·.oneCell')=true) (h:K (a.put o.dst undef) (w.setCells b off cells.toList)):
 if Region.wanted o (yielded ops a.tmps)=true then Oper.wp P o a w K Q else E:=by
 have hw:Region.wanted o (yielded ops a.tmps)=true:=by simp [Region.wanted,hgd]
 rw [if_pos hw]
 exact wp_store_mid ty x y ho b off cells hx hy ht hi h1 h
theorem Yis {b:Nat} {C:Array Value} {t:TypeId} (h:w.heap[b]? = some (.cells C t (0,0))) (o n:Nat) (hn:o+n≤C.size):w.there b o n:=fun j hj=>
 ⟨by rw [Yaa h (Array.getElem?_eq_getElem (show o+j<C.size by omega))];rfl,Yah _ h⟩
theorem Yqa {ws:List (Nat×List Value)} {D:Array Value} {wr w0:World} {db k a:Nat} {S:List Value} (hlt:k<ws.length) (hX:Ybp D (ws.take (k+1))=Ych (Ybp D (ws.take k)) (a*64) S)
 (hB0:Below wr.heap.size wr w0) (hd0:w0.heap[db]? = some (.cells (Ybp D (ws.take k)) 103 (0,0))) (hO:∀ j,j<w.heap.size→j≠db→wr.heap[j]? = w.heap[j]?) (hB:Below 0 w wr):
 (∃ k1:Nat,k1≤ws.length∧Value.int .i64 ((k:Int)+1)=Value.int .i64 (k1:Int)∧(w0.drew.setCells db (a*64) S).heap[db]? = some (.cells (Ybp D (ws.take k1)) 103 (0,0)) ∧
  (∀ j,j<w.heap.size→j≠db→(w0.drew.setCells db (a*64) S).heap[j]? = w.heap[j]?)∧Below 0 w (w0.drew.setCells db (a*64) S)) ∧
 ws.length - (intOf (.int .i64 ((k:Int)+1))).toNat<ws.length - (intOf (.int .i64 (k:Int))).toNat:=by
 have hs:=hB.size
 refine ⟨⟨k+1,by omega,by simp,?_,fun j h1 h2=>?_,?_⟩,?_⟩
 ·rw [hX];exact Yhz S w0.drew db (a*64) _ _ hd0
 ·rw [Ygn S w0.drew db (a*64) j h2]
  exact (hB0.block j (by omega)).trans (hO j h1 h2)
 ·refine Yp8 S w w0.drew db (a*64) ?_
  exact ⟨hB0.os.trans hB.os,hB0.tape.trans hB.tape,hB0.output.trans hB.output,by have:=hB0.size;simp;omega,fun k hk=>by omega⟩
 ·simp [intOf];omega
theorem Ym7 (db base g cap:Nat) (ws:List (Nat×List Value)) (D cur:Array Value) (w:World) (hdb:db<base) (hb:base≤g) (hok:Ydn ws) (hn:ws.length≤100000)
 (hD:w.heap[db]? = some (.cells D 103 (0,0))) (hDz:D.size=27779) (hDv:D[27776]? = some (.slice (some ⟨g,0,none⟩) ws.length cap)) (hg:w.heap[g]? = some (.cells cur 143 (0,0))) (hcur:∀ (j:Nat) u,(Ycs ws)[j]? = some u→cur[j]? = some u):
 Calls prog 117 #[.pointer (some ⟨db,0,none⟩)] w fun e w'=>e=.returned (.tuple #[])∧w'.heap[db]? = some (.cells ((Ybp D ws).setIfInBounds 27776 (.slice none 0 0)) 103 (0,0))∧(∀ k,k<w.heap.size→k≠db→w'.heap[k]? = w.heap[k]?)∧Below 0 w w':=by
 have hc:w.cell? ⟨db,27776,none⟩=some (.slice (some ⟨g,0,none⟩) ws.length cap):=Yaa hD hDv
 have hgw:g<w.heap.size:=Yaj hg
 have hdw:db<w.heap.size:=Yaj hD
 go_enter func117,ntmps117
 go_wp2
 go_loopw [9] (fun i wr=>∃ k:Nat,k≤ws.length∧i=.int .i64 k∧wr.heap[db]? = some (.cells (Ybp D (ws.take k)) 103 (0,0))∧(∀ j,j<w.heap.size→j≠db→wr.heap[j]? = w.heap[j]?)∧Below 0 w wr) (fun i _=>ws.length - (intOf i).toNat)
 case atStart=>exact ⟨0,by omega,rfl,by simpa [Ybp] using hD,fun _ _ _=>rfl,Below.refl _ _⟩
 case round=>
  obtain ⟨k,hk,rfl,hd,ho,hb0⟩:=hrel;have HD:=Yh hd;have HO:=Yh ho;have HB:=Yh hb0;by_cases hlt:k<ws.length
  ·have hlt':(k:Int)<(ws.length:Int):=by omega
   obtain ⟨h434,h64,hone⟩:=hok ws[k] (List.getElem_mem hlt);have hr:wr.rangeAt g (k*65) (Value.int .i64 ((ws[k]).1:Int) :: (ws[k]).2):=fun j u hu=>by
    have hgr:wr.heap[g]? = some (.cells cur 143 (0,0)):=(ho g hgw (by omega)).trans hg;exact Yaa hgr (hcur _ _ (Ym4 ws (fun p hp=>(hok p hp).2.1) k _ (List.getElem?_eq_getElem hlt) j u hu))
   have hnext:ws.take (k+1)=ws.take k ++ [ws[k]]:=by simp
   have HX:Hid (wr.heap[db]? = some (.cells (Ybp D (ws.take k)) 103 (0,0))∧(Ybp D (ws.take k)).size=27779∧Ybp D (ws.take (k+1))=Ych (Ybp D (ws.take k)) (ws[k].1*64) ws[k].2):=⟨hd,by rw [Yh0,hDz],by rw [hnext,Yp9]⟩;have hdr:db<wr.heap.size:=Yaj hd;generalize ws[k]=p at h434 h64 hone hr HX;obtain ⟨a,S⟩:=p;simp only at h434 h64 hone hr HX;have hC:(Value.int .i64 (a:Int) :: S).length=65:=by simp [h64]
   have hi149:(prog.info? 143).map (·.size)=some (Value.int .i64 (a:Int) :: S).length:=by rw [hC];exact Ym5
   have hi107:(prog.info? 98).map (·.size)=some S.length:=by rw [h64];exact Yj0
   have hC1:∀ u∈Value.int .i64 (a:Int) :: S,u.oneCell'=true:=fun u hu=>(List.mem_cons.1 hu).elim (fun h=>by rw [h];rfl) (fun h=>hone u h)
   have HC1:=Yh hC1;have HS1:=Yh hone;clear hd ho hb0 hnext hC1 hone;go_wp2_with (first
    | (refine wpList_load_mid rfl 143 (.tmp 11) rfl g (k*65) (by rfl) _ _ hr underlying143 rfl hi149 ?_)
    | (
     refine wpList_store_row rfl 143 (.tmp 3) (.tmp 12) rfl wr.heap.size (Value.int .i64 (a:Int) :: S).toArray (by rfl) (by rfl) 143 _ (heap_alloc_new _ _) (by simpa using hi149) ?ho (all_oneCell_toArray HC1.out) ?_
     case ho=>rw [Ym0];simp [h64]
     rw [World.setRow_alloc_new]))
   have hB0:Below wr.heap.size wr (wr.alloc (.cells (Value.int .i64 (a:Int) :: S).toArray 143)):=(Below.refl _ _).alloc (Nat.le_refl _) _;have hn0:(wr.alloc (.cells (Value.int .i64 (a:Int) :: S).toArray 143)).heap[wr.heap.size]? = some (.cells (Value.int .i64 (a:Int) :: S).toArray 143 (0,0)):=heap_alloc_new wr _;have hd0:(wr.alloc (.cells (Value.int .i64 (a:Int) :: S).toArray 143)).heap[db]? = some (.cells (Ybp D (ws.take k)) 103 (0,0)):=(hB0.block db hdr).trans HD.out;revert hB0 hn0 hd0;generalize wr.alloc (.cells (Value.int .i64 (a:Int) :: S).toArray 143)=w0;intro hB0 hn0 hd0;have c0:w0.cell? ⟨wr.heap.size,0,none⟩=some (.int .i64 (a:Int)):=Yaa hn0 (by rfl);have hr1:w0.rangeAt wr.heap.size 1 S:=fun j u hu=>Yaa hn0 (by rw [Nat.add_comm];simpa using hu)
   have HT:Hid (w0.there db (a*64) S.toArray.size):=Yis hd0 _ _ (by have:=HX.out.2.1;simp [h64];omega);have HB0:=Yh hB0;have HD0:=Yh hd0;have ha0:(a:Int)<434:=by omega
   clear hB0 hn0 hd0 hr hc hg hcur hok hD hDz hDv;refine wp_region_any (by kernel_rfl) ?_;change wpAny _ _ _ _ _ _ _ w0.drew;refine wpAny_take (i:=0) (v:=(Value.pointer (some ⟨db,0,none⟩))) rfl (by kernel_rfl) (by kernel_rfl) (by kernel_rfl) (fun _ _ _ h=>h) (Or.inl ⟨by rfl,?_⟩) ?_
   ·intro wz;go_simp
   refine wpAny_take (i:=1) (v:=(Value.pointer (some ⟨wr.heap.size,0,none⟩))) rfl (by kernel_rfl) (by kernel_rfl) (by kernel_rfl) (fun _ _ _ h=>h) (Or.inl ⟨by rfl,?_⟩) ?_
   ·intro wz;go_simp
   refine wpAny_take (i:=3) (v:=(Value.pointer (some ⟨wr.heap.size,1,none⟩))) rfl (by kernel_rfl) (by kernel_rfl) (by kernel_rfl) (fun _ _ _ h=>h) (Or.inl ⟨by rfl,?_⟩) ?_
   ·intro wz;go_simp
   refine wpAny_take (i:=5) (v:=(Value.pointer (some ⟨db,0,none⟩))) rfl (by kernel_rfl) (by kernel_rfl) (by kernel_rfl) (fun _ _ _ h=>h) (Or.inl ⟨by rfl,?_⟩) ?_
   ·intro wz;go_simp
   refine wpAny_take (i:=6) (v:=(Value.pointer (some ⟨db,0,none⟩))) rfl (by kernel_rfl) (by kernel_rfl) (by kernel_rfl) (fun _ _ _ h=>h) (Or.inl ⟨by rfl,?_⟩) ?_
   ·intro wz;go_simp
   refine wpAny_ready (rs:=[2,4]) (by kernel_rfl) (by simp) ?_;refine AllReady.cons rfl (fun K hK=>?_) (AllReady.cons rfl (fun K hK=>?_) AllReady.nil)
   ·go_simp
    refine hK _ _ ?_;clear hK K;refine wpAny_ready (rs:=[4]) (by kernel_rfl) (by simp) ?_;refine AllReady.cons rfl (fun K hK=>?_) AllReady.nil;refine Yiq rfl 98 (.tmp 16) rfl wr.heap.size 1 (by rfl) S _ hr1 underlying98 rfl hi107 ?_;refine hK _ _ ?_;clear hK K;refine wpAny_ready (rs:=[7]) (by kernel_rfl) (by simp) ?_;refine AllReady.cons rfl (fun K hK=>?_) AllReady.nil;go_simp;refine hK _ _ ?_;clear hK K;refine wpAny_ready (rs:=[8]) (by kernel_rfl) (by simp) ?_;refine AllReady.cons rfl (fun K hK=>?_) AllReady.nil;refine Ym6 rfl 98 (.tmp 20) (.tmp 17) rfl db (a*64) S.toArray (by rfl) (by rfl) HT.out (by simpa using hi107) (all_oneCell_toArray HS1.out) ?_;refine hK _ _ ?_;clear hK K;refine wpAny_done (by kernel_rfl) ?_ _;go_wp2;exact Yqa hlt HX.out.2.2 HB0.out HD0.out HO.out HB.out
   ·refine Yiq rfl 98 (.tmp 16) rfl wr.heap.size 1 (by rfl) S _ hr1 underlying98 rfl hi107 ?_
    refine hK _ _ ?_;clear hK K;refine wpAny_ready (rs:=[2]) (by kernel_rfl) (by simp) ?_;refine AllReady.cons rfl (fun K hK=>?_) AllReady.nil;go_simp;refine hK _ _ ?_;clear hK K;refine wpAny_ready (rs:=[7]) (by kernel_rfl) (by simp) ?_;refine AllReady.cons rfl (fun K hK=>?_) AllReady.nil;go_simp;refine hK _ _ ?_;clear hK K;refine wpAny_ready (rs:=[8]) (by kernel_rfl) (by simp) ?_;refine AllReady.cons rfl (fun K hK=>?_) AllReady.nil;refine Ym6 rfl 98 (.tmp 20) (.tmp 17) rfl db (a*64) S.toArray (by rfl) (by rfl) HT.out (by simpa using hi107) (all_oneCell_toArray HS1.out) ?_;refine hK _ _ ?_;clear hK K;refine wpAny_done (by kernel_rfl) ?_ _;go_wp2;exact Yqa hlt HX.out.2.2 HB0.out HD0.out HO.out HB.out
  ·have hlt':¬(k:Int)<(ws.length:Int):=by omega
   have f1:=Yah 27776 hd;have c1:∃ u,wr.cell? ⟨db,27776,none⟩=some u:=by
    have hs:27776<(Ybp D (ws.take k)).size:=by rw [Yh0];omega
    exact ⟨_,Yaa hd (Array.getElem?_eq_getElem hs)⟩
   obtain ⟨u1,c1⟩:=c1;have hkk:k=ws.length:=by omega
   clear hd ho hb0;go_wp2;go_end0;subst hkk;have e1:Ybp D (ws.take ws.length)=Ybp D ws:=by rw [List.take_length]
   rw [e1] at HD;exact ⟨rfl,Yak wr db 27776 _ _ _ HD.out,fun k h1 h2=>(Below.heap_setCell _ _ _ _ h2).trans (HO.out k h1 h2),HB.out.setCell (p:=⟨db,27776,none⟩) (by simp) _⟩
end Go.Proofs.YtihbngfbcnojcaaGreat
namespace Go.Proofs.YtihbngfbcnojcaaGreat
open Go.RowKit Go.Shelf Tryz
attribute [local go_sem] Oper.semAt_some
theorem Yqb {F:Fence} {n:Nat} {P:Program} {ops:Array Oper} {rest:List Oper} {op:Oper} {a:Act} {w:World} {Q:Exit→Act→World→Prop} (hgd:op.guard=none) (ty:TypeId) (x:Operand) (ho:op.op=.load ty x)
 (b o:Nat) (hx:a.eval x=.pointer (some ⟨b,o,none⟩)) (cs:List Value) (d:TypeDesc) (hc:w.rangeAt b o cs)
 (hu:P.underlying ty=some d) (hd:d.isRow=true) (hi:(P.info? ty).map (·.size)=some cs.length)
 (h:wpListIn F n P ops Q rest (a.put op.dst (.agg cs.toArray)) w):wpListIn F n P ops Q (op :: rest) a w:=by
 refine wpListIn_plain hgd fun K' hK'=>?_
 unfold Oper.wpIn
 refine ⟨by simp [Oper.about,ho],?_⟩
 rw [Oper.semAt_eq _ _ _ (by simp [ho])]
 unfold execOp
 simp only [ho,hx,Instr.loadAt,Instr.sureAddr,Sem.run_bind,Sem.run_pure,Result.andThen_ok,run_loadVar_mid w b o ty cs d hc hu hd hi]
 exact hK' _ _ h
theorem Yv8 {F:Fence} {n:Nat} {P:Program} {ops:Array Oper} {rest:List Oper} {op:Oper} {a:Act} {w:World} {Q:Exit→Act→World→Prop} (hgd:op.guard=none) (ty:TypeId) (x y:Operand) (ho:op.op=.store ty x y)
 (b o:Nat) (cells:Array Value) (hx:a.eval x=.pointer (some ⟨b,o,none⟩)) (hy:a.eval y=.agg cells)
 (ht:w.there b o cells.size) (hi:(P.info? ty).map (·.size)=some cells.size) (h1:cells.all (·.oneCell')=true)
 (h:wpListIn F n P ops Q rest (a.put op.dst undef) (w.setCells b o cells.toList)):wpListIn F n P ops Q (op :: rest) a w:=by
 refine wpListIn_plain hgd fun K' hK'=>?_
 unfold Oper.wpIn
 refine ⟨by simp [Oper.about,ho],?_⟩
 rw [Oper.semAt_eq _ _ _ (by simp [ho])]
 unfold execOp
 simp only [ho,hx,hy,Instr.storeAt,Instr.sureAddr,Sem.run_bind,Sem.run_pure,Result.andThen_ok,run_storeVar_mid w b o ty cells ht hi h1]
 exact hK' _ _ h
theorem Yv9 {F:Fence} {n:Nat} {P:Program} {ops:Array Oper} {rest:List Oper} {op:Oper} {a:Act} {w:World} {Q:Exit→Act→World→Prop} (hgd:op.guard=none) (ty:TypeId) (x y:Operand) (ho:op.op=.store ty x y)
 (Z cells:Array Value) (hx:a.eval x=.pointer (some ⟨w.heap.size,0,none⟩)) (hy:a.eval y=.agg cells)
 (hz:Z.size=cells.size) (hi:(P.info? ty).map (·.size)=some cells.size) (h1:cells.all (·.oneCell')=true)
 (h:wpListIn F n P ops Q rest (a.put op.dst undef) (w.alloc (.cells cells ty))):wpListIn F n P ops Q (op :: rest) a (w.alloc (.cells Z ty)):=by
 refine wpListIn_plain hgd fun K' hK'=>?_
 unfold Oper.wpIn
 refine ⟨by simp [Oper.about,ho],?_⟩
 rw [Oper.semAt_eq _ _ _ (by simp [ho])]
 unfold execOp
 simp only [ho,hx,hy,Sem.run_bind,Sem.run_pure,Result.andThen_ok,run_storeAt_new w ty Z cells hi hz h1]
 exact hK' _ _ h
abbrev Wr:={ x:Nat×(Nat×List Value) // x.2.2.length=64∧∀ u∈x.2.2,u.oneCell'=true }
def Wr.cells (x:Wr):List Value:=.int .i64 (x.1.2.1:Int) :: x.1.2.2
theorem Wr.cells_length (x:Wr):x.cells.length=65:=by simp [Wr.cells,x.2.1]
theorem Wr.cells_one (x:Wr):∀ u∈x.cells,u.oneCell'=true:=fun u hu=>(List.mem_cons.1 hu).elim (fun h=>by rw [h];rfl) (fun h=>x.2.2 u h)
def Yj1 (W:World) (b:Nat) (zs:List Wr):Prop:=∀ (j:Nat) (x:Wr),zs[j]? = some x→x.1.1=zs.length - 1 - j∧W.rangeAt b ((zs.length - 1 - j)*65) x.cells
theorem Yj1.below {n₀:Nat} {A B:World} (h:Below n₀ A B) {b:Nat} (hb:b<n₀) {zs:List Wr} (hz:Yj1 A b zs):Yj1 B b zs:=fun j x hx=>
 ⟨(hz j x hx).1,fun i u hu=>(h.cell (p:=⟨b,_,none⟩) hb).trans ((hz j x hx).2 i u hu)⟩
theorem Ywa (F:Fence) (n:Nat) (h7:F.fn 202) (hro:F.round=none) (hn:1≤n) (l Bs n₀ b cap:Nat) (zs:List Wr) (hlen:zs.length≤100000) (hb:b<n₀) (hBsn:Bs<n₀) (J Jx:List Wr→World→Prop)
 (hY:∀ pre x W,J pre W→pre.length<zs.length→YieldAt F (n - 1) prog l #[.int .i64 (x.1.1:Int),.agg x.cells.toArray] W fun e W'=>
  (e=.returned (.bool true)∧J (pre ++ [x]) W'∧Below n₀ W W')∨(e=.returned (.bool false)∧Jx (pre ++ [x]) W'))
 (W:World) (hBs:W.cell? ⟨Bs,0,none⟩=some (.slice (some ⟨b,0,none⟩) zs.length cap)) (hc:Yj1 W b zs) (h0:J [] W):
 CallsIn F n prog 202 #[.func (.yield l) #[] #[],.pointer (some ⟨Bs,0,none⟩)] W fun e W'=>(∃ v,e=.returned v) ∧
  ((∃ ys,ys=zs∧J ys W')∨(∃ pre,pre <+: zs∧Jx pre W')):=by
 refine callsIn_of_wp func202 rfl h7 ?_ hro
 simp only [ntmps202,List.size_toArray,List.length_cons,List.length_nil,Nat.reduceAdd,Nat.reduceSub,Array.replicate_succ,Array.replicate_zero,List.push_toArray,List.append_toArray,List.nil_append,List.cons_append]
 have hw0:wrap64 ((zs.length:Int) - 1)=(zs.length:Int) - 1:=by simp only [wrap64];omega
 gi_wp2
 gi_loopw [3] (fun i wr=>∃ k:Nat,k≤zs.length∧i=.int .i64 ((zs.length:Int) - 1 - k)∧J (zs.take k) wr∧Below n₀ W wr)
  (fun i _=>((intOf i)+1).toNat)
 case atStart=>exact ⟨0,Nat.zero_le _,by simp,h0,Below.refl _ _⟩
 case round=>
  obtain ⟨k,hk,rfl,hJs,hnx⟩:=hrel;by_cases hlt:k<zs.length
  ·obtain ⟨x,hx⟩:∃ x,zs[k]? = some x:=⟨_,List.getElem?_eq_getElem hlt⟩
   have hnext:zs.take (k+1)=zs.take k ++ [x]:=by rw [List.take_add_one,hx];rfl
   obtain ⟨hx1,hr⟩:=(hc.below hnx hb) k x hx;have hBr:wr.cell? ⟨Bs,0,none⟩=some (.slice (some ⟨b,0,none⟩) zs.length cap):=(hnx.cell (p:=⟨Bs,0,none⟩) hBsn).trans hBs;obtain ⟨i,hi⟩:∃ i:Nat,(zs.length:Int) - 1 - k=(i:Int)∧i=zs.length - 1 - k:=⟨zs.length - 1 - k,by omega,rfl⟩;rw [←hi.2] at hx1 hr;obtain ⟨fn,tmps,assign,body,hy,hR⟩:=hY _ x wr hJs (by rw [List.length_take];omega);rw [hx1] at hy;rw [hi.1];have hil:(i:Int)<(zs.length:Int):=by omega
   have HI:Hid (i=zs.length - 1 - k):=hi.2;clear hi;have hi149:(prog.info? 143).map (·.size)=some x.cells.length:=by rw [Wr.cells_length];exact Ym5
   gi_wp2_with (first
    | (refine Yqb rfl 143 (.tmp 15) rfl b (i*65) (by rfl) x.cells _ hr underlying143 rfl hi149 ?_))
   refine hR.mono ?_;rintro e W3 (⟨rfl,hJ3,hk3⟩ | ⟨rfl,hJx3⟩)
   ·gi_wp2
    go_roundw
    case rel=>exact ⟨k+1,by omega,by have:=HI.out;simp <;> omega,by rw [hnext];exact hJ3,hnx.trans hk3⟩
    case measure=>simp [intOf] <;> omega
   ·gi_wp2
    refine bodyPost_ret (results_none rfl _ _ _) rfl ?_;exact ⟨⟨_,rfl⟩,.inr ⟨_,by rw [←hnext];exact List.take_prefix _ _,hJx3⟩⟩
  ·obtain rfl:k=zs.length:=by omega
   have hlt':¬(0:Int)≤(zs.length:Int) - 1 - zs.length:=by omega
   gi_wp2;go_end0;rw [List.take_length] at hJs;exact ⟨⟨_,rfl⟩,.inl hJs⟩
theorem Ywb (F:Fence) (n:Nat) (h7:F.fn 202) (hro:F.round=none) (l Bs:Nat) (J:List Wr→World→Prop) (W:World) (hBs:W.cell? ⟨Bs,0,none⟩=some (.slice none 0 0)) (h0:J [] W):
 CallsIn F n prog 202 #[.func (.yield l) #[] #[],.pointer (some ⟨Bs,0,none⟩)] W fun e W'=>(∃ v,e=.returned v)∧J [] W':=by
 refine callsIn_of_wp func202 rfl h7 ?_ hro
 simp only [ntmps202,List.size_toArray,List.length_cons,List.length_nil,Nat.reduceAdd,Nat.reduceSub,Array.replicate_succ,Array.replicate_zero,List.push_toArray,List.append_toArray,List.nil_append,List.cons_append]
 gi_wp2
 gi_loopw [3] (fun i wr=>i=.int .i64 (-1)∧J [] wr) (fun _ _=>0)
 case atStart=>exact ⟨rfl,h0⟩
 case round=>
  obtain ⟨rfl,hJs⟩:=hrel;gi_wp2;go_end0;exact ⟨⟨_,rfl⟩,hJs⟩
theorem Ywc (a:Option Addr) (len cap:Nat) (w:World):
 Calls prog 153 #[.slice a len cap] w fun e w'=>e=.returned (.func (.func 202) #[] #[.pointer (some ⟨w.heap.size,0,none⟩)])∧w.alloc (.cells #[.slice a len cap] 100)=w':=by
 go_enter func153,ntmps153
 go_wp2
 go_ret
 exact ⟨rfl,rfl⟩
def Yh1 (n₀:Nat) (W:World) (sv:Value) (zs:List Wr):Prop:=(sv=.slice none 0 0∧zs=[])∨∃ b cap,sv=.slice (some ⟨b,0,none⟩) zs.length cap∧b<n₀∧Yj1 W b zs
theorem Yh1.below {n₀:Nat} {A B:World} (h:Below n₀ A B) {sv:Value} {zs:List Wr}:Yh1 n₀ A sv zs→Yh1 n₀ B sv zs
 | .inl e=>.inl e
 | .inr ⟨b,cap,e,hb,hc⟩=>.inr ⟨b,cap,e,hb,hc.below h hb⟩
theorem Ywd (F:Fence) (n:Nat) (h7:F.fn 202) (hro:F.round=none) (hn:1≤n) (Bs n₀:Nat) (sv:Value) (zs:List Wr) (hlen:zs.length≤100000) (w:World) (hBs:Bs<n₀) (hn₀:n₀≤w.heap.size)
 (hc:w.cell? ⟨Bs,0,none⟩=some sv) (hI:Yh1 n₀ w sv zs):
 SeqStopsK F n prog 202 #[.pointer (some ⟨Bs,0,none⟩)] (fun x:Wr=>#[Value.int .i64 (x.1.1:Int),.agg x.cells.toArray]) (Below n₀) (fun ys=>ys=zs) (fun pre=>pre <+: zs) zs.length w:=fun l J Jx W hW _ _ hY h0=>by
 have hc':=(hW.cell (p:=⟨Bs,0,none⟩) (by simp;omega)).trans hc
 rcases hI.below (hW.mono hn₀) with ⟨rfl,rfl⟩ | ⟨b,cap,rfl,hb,hcs⟩
 ·exact (Ywb F n h7 hro l Bs J W hc' h0).mono fun e W' ⟨he,hj⟩=>⟨he,.inl ⟨_,rfl,hj⟩⟩
 ·exact Ywa F n h7 hro hn l Bs n₀ b cap zs hlen hb hBs J Jx hY W hc' hcs h0
theorem Yla {β:Type} (B:Nat) (t:TypeId) (f:β→Array Value):Own (fun s W=>W.heap[B]? = some (.cells (f s) t (0,0))):=fun s X Y row hs hg hrow=>
 (hg.block B (Array.getElem?_eq_some_iff.1 hs).1 (fun e'=>by obtain ⟨o,ho,hc⟩:=hrow B e'.symm;rw [hs] at ho;cases ho;cases hc)).trans hs
end Go.Proofs.YtihbngfbcnojcaaGreat
namespace Go.Proofs.YtihbngfbcnojcaaGreat
open Go.RowKit Go.Shelf Tryz
attribute [local go_sem] Oper.semAt_some
def Yay (D:Array Value) (ws:List (Nat×List Value)) (a:Nat):List Value:=
 match ws.reverse.find? (fun p=>p.1 == a) with
 | some p=>p.2
 | none=>(D.extract (a*64) (a*64+64)).toList
def Yhe (w:World) (v:Value) (ws:List (Nat×List Value)):Prop:=
 (v=.slice none 0 0∧ws=[])∨∃ g cap cur,v=.slice (some ⟨g,0,none⟩) ws.length cap∧w.heap[g]? = some (.cells cur 143 (0,0))∧∀ (j:Nat) u,(Ycs ws)[j]? = some u→cur[j]? = some u
theorem Yhe.below {w w':World} {v:Value} {ws:List (Nat×List Value)} (h:Yhe w v ws) (hb:Below w.heap.size w w'):Yhe w' v ws:=by
 rcases h with h | ⟨g,cap,cur,h1,h2,h3⟩
 ·exact .inl h
 ·exact .inr ⟨g,cap,cur,h1,(hb.block g (Yaj h2)).trans h2,h3⟩
theorem Ywe {ws:List (Nat×List Value)} (hok:Ydn ws):∀ p∈ws.zipIdx.reverse,p.1.2.length=64∧∀ u∈p.1.2,u.oneCell'=true:=by
 intro p hp;have:p.1∈ws:=(List.mem_zipIdx' (List.mem_reverse.1 hp)).2▸List.getElem_mem _;exact ⟨(hok _ this).2.1,(hok _ this).2.2⟩
def Yet (ws:List (Nat×List Value)) (hok:Ydn ws):List Wr:=ws.zipIdx.reverse.pmap (fun p h=>(⟨(p.2,p.1),h⟩:Wr)) (Ywe hok)
theorem Yit (ws:List (Nat×List Value)) (hok:Ydn ws):(Yet ws hok).length=ws.length:=by simp [Yet]
theorem Yqc (ws:List (Nat×List Value)) (hok:Ydn ws) (j:Nat) (x:Wr) (h:(Yet ws hok)[j]? = some x):j<ws.length∧x.1.1=ws.length - 1 - j∧ws[ws.length - 1 - j]? = some x.1.2:=by
 have hj:j<ws.length:=by have:=(List.getElem?_eq_some_iff.1 h).1;rw [Yit] at this;exact this
 obtain ⟨h1,h2⟩:=List.getElem?_eq_some_iff.1 h;refine ⟨hj,?_⟩;simp [Yet] at h2;subst h2;exact ⟨by simp,by simp [List.getElem?_eq_getElem (show ws.length - 1 - j<ws.length by omega)]⟩
theorem Yqd (ws:List (Nat×List Value)) (hok:Ydn ws):(Yet ws hok).map (·.1.2)=ws.reverse:=by
 apply List.ext_getElem?;intro j;by_cases hj:j<ws.length
 ·have hb:j<(Yet ws hok).length:=by rw [Yit];exact hj
  obtain ⟨_,_,h3⟩:=Yqc ws hok j _ (List.getElem?_eq_getElem hb);rw [List.getElem?_map,List.getElem?_eq_getElem hb,List.getElem?_reverse hj,h3];rfl
 ·rw [List.getElem?_eq_none (by simp [Yit];omega),List.getElem?_eq_none (by simp;omega)]
theorem Yhe.back {w:World} {v:Value} {ws:List (Nat×List Value)} (hok:Ydn ws) (h:Yhe w v ws):Yh1 w.heap.size w v (Yet ws hok):=by
 rcases h with ⟨h1,h2⟩ | ⟨g,cap,cur,h1,h2,h3⟩
 ·subst h2;exact .inl ⟨h1,rfl⟩
 ·refine .inr ⟨g,cap,by rw [Yit];exact h1,Yaj h2,fun j x hx=>?_⟩
  obtain ⟨hj,e1,e2⟩:=Yqc ws hok j x hx;rw [Yit];refine ⟨e1,fun i u hu=>Yaa h2 (h3 _ _ (Ym4 ws (fun p hp=>(hok p hp).2.1) _ _ e2 i u hu))⟩
theorem Ywf {D:Array Value} {ws:List (Nat×List Value)} {a:Nat} (hok:Ydn ws) {pre:List Wr} {x:Wr} (hp:pre ++ [x] <+: Yet ws hok) (hn:∀ y∈pre,y.1.2.1≠a) (hx:x.1.2.1=a):Yay D ws a=x.1.2.2:=by
 obtain ⟨r,hr⟩:=hp;have hm:=Yqd ws hok;rw [←hr] at hm;have:ws.reverse.find? (fun p=>p.1 == a)=some x.1.2:=by
  rw [←hm,List.append_assoc,List.map_append,List.find?_append];have h0:(pre.map (·.1.2)).find? (fun p=>p.1 == a)=none:=by
   rw [List.find?_eq_none];intro p hp;obtain ⟨y,hy,rfl⟩:=List.mem_map.1 hp;simpa using hn y hy
  rw [h0];simp [hx]
 simp [Yay,this]
theorem Ywg {D:Array Value} {ws:List (Nat×List Value)} {a:Nat} (hok:Ydn ws) (hn:∀ y∈Yet ws hok,y.1.2.1≠a):Yay D ws a=(D.extract (a*64) (a*64+64)).toList:=by
 have hm:=Yqd ws hok;have:ws.reverse.find? (fun p=>p.1 == a)=none:=by
  rw [←hm,List.find?_eq_none];intro p hp;obtain ⟨y,hy,rfl⟩:=List.mem_map.1 hp;simpa using hn y hy
 simp [Yay,this]
theorem Yf2:∀ (S:List Value) (C:Array Value) (o j:Nat),(Ych C o S)[j]? = if o≤j∧j<o+S.length∧j<C.size then S[j - o]? else C[j]?
 | [],C,o,j=>by rw [if_neg (by simp;omega)];rfl
 | v :: r,C,o,j=>by
  rw [Ych,Yf2 r _ (o+1) j,Array.size_setIfInBounds,Array.getElem?_setIfInBounds];by_cases h1:o=j
  ·subst h1
   rw [if_neg (by omega),if_pos rfl];by_cases h2:o<C.size
   ·rw [if_pos h2,if_pos (by simp;omega)];simp
   ·rw [if_neg h2,if_neg (by simp;omega)];exact (Array.getElem?_eq_none (by omega)).symm
  ·rw [if_neg h1]
   by_cases h2:o+1≤j∧j<o+1+r.length∧j<C.size
   ·rw [if_pos h2,if_pos (by simp;omega)]
    obtain ⟨k,rfl⟩:∃ k,j=o+1+k:=⟨j - (o+1),by omega⟩;rw [show o+1+k - (o+1)=k by omega,show o+1+k - o=k+1 by omega];rfl
   ·rw [if_neg h2,if_neg (by simp;omega)]
theorem Yqe (Z:Array Value) (S:List Value) (h:Z.size=S.length):Ych Z 0 S=S.toArray:=by
 apply Array.ext_getElem?;intro j;rw [Yf2];by_cases hj:j<S.length
 ·rw [if_pos (by omega)];simp
 ·rw [if_neg (by omega),Array.getElem?_eq_none (by omega),Array.getElem?_eq_none (by simp;omega)]
def Yqf (Q:Exit→Act→World→Prop):Exit→Act→World→Prop
 | .panic _,_,_=>False
 | e,a,w=>Q e a w
theorem Ywh (Q:Exit→Act→World→Prop):∀ e a w,Yqf Q e a w→Q e a w:=by
 intro e a w h
 cases e <;> first | exact h | exact h.elim
theorem Ywi {Q:Exit→Act→World→Prop} {a:Act} {w:World} (h:Q .normal a w):Yqf Q .normal a w:=h
theorem Yiu:∀ (S:List Value) (w:World) {B:Nat} (b o:Nat),B≤b→Below B w (w.setCells b o S)
 | [],w,B,_,_,_=>Below.refl B w
 | u :: r,w,B,b,o,h=>((Below.refl B w).setCell (p:=⟨b,o,none⟩) h u).trans (Yiu r _ b (o+1) h)
theorem Ym8:∀ (S:List Value) (w:World) (b o:Nat),KeepsOthers w (w.setCells b o S)
 | [],w,_,_=>KeepsOthers.refl w
 | u :: r,w,b,o=>(KeepsOthers.setCell w ⟨b,o,none⟩ u).trans (Ym8 r _ b (o+1))
theorem Ywj (db a:Nat) (ws:List (Nat×List Value)) (v:Value) (D:Array Value) (w:World) (ha:a<434) (hok:Ydn ws) (hn:ws.length≤100000) (hD:w.heap[db]? = some (.cells D 103 (0,0))) (hDz:D.size=27779) (hDv:D[27776]? = some v)
 (hrow:Yhe w v ws) (hD1:∀ u∈D.extract (a*64) (a*64+64),u.oneCell'=true):
 Calls prog 107 #[.pointer (some ⟨db,0,none⟩),.int .i64 (a:Int)] w fun e w'=>e=.returned (.agg (Yay D ws a).toArray)∧Below w.heap.size w w':=by
 have hc:w.cell? ⟨db,27776,none⟩=some v:=Yaa hD hDv
 obtain ⟨ad,len,cap,rfl⟩:∃ ad len cap,v=.slice ad len cap:=by
  rcases hrow with ⟨h,_⟩ | ⟨g,cap,cur,h,_⟩
  ·exact ⟨_,_,_,h⟩
  ·exact ⟨_,_,_,h⟩
 have hdw:db<w.heap.size:=Yaj hD
 have HD:=Yh hD
 have HBK:Hid (Yh1 w.heap.size w (.slice ad len cap) (Yet ws hok)):=hrow.back hok
 have hL:=Yit ws hok
 have HF:Hid (∀ pre x,pre ++ [x] <+: Yet ws hok→(∀ y∈pre,y.1.2.1≠a)→x.1.2.1=a→Yay D ws a=x.1.2.2):=fun pre x h1 h2 h3=>Ywf hok h1 h2 h3
 have HN:Hid ((∀ y∈Yet ws hok,y.1.2.1≠a)→Yay D ws a=(D.extract (a*64) (a*64+64)).toList):=fun h=>Ywg hok h
 have HR:Hid (∀ W,Below w.heap.size w W→W.rangeAt db (a*64) (D.extract (a*64) (a*64+64)).toList):=fun W hW j u hu=>by
  have:=World.rangeAt_of_block ((hW.block db hdw).trans hD) (a*64) 64 j u;exact this hu
 have HDs:Hid ((D.extract (a*64) (a*64+64)).size=64):=by show _=_;rw [Array.size_extract];omega
 have HD1:Hid (∀ u∈(D.extract (a*64) (a*64+64)).toList,u.oneCell'=true):=fun u hu=>hD1 u (Array.mem_toList_iff.1 hu)
 generalize D.extract (a*64) (a*64+64)=X at HN HR HDs HD1
 generalize Yet ws hok=zs at HBK hL HF HN
 clear hD hDv hrow hDz hD1
 refine (callsIn_wide (n:=10)).1 ?_
 refine callsIn_of_wp_marks func107 rfl trivial ?_ rfl
 simp only [ntmps107,List.size_toArray,List.length_cons,List.length_nil,Nat.reduceAdd,Nat.reduceSub,Array.replicate_succ,Array.replicate_zero,List.push_toArray,List.append_toArray,List.nil_append,List.cons_append]
 refine wpIn_wide.2 ?_
 go_wp2_with (first
  | (go_at_call 153;refine (Ywc _ _ _ _).mono ?_;rintro e w' ⟨rfl,rfl⟩))
 have hz64:(List.replicate 64 (Value.int .u8 0)).toArray.size=64:=by simp
 change Code.wp _ _ _ _ (((w.alloc (.cells #[.int .i64 (a:Int)] 3)).alloc (.cells (List.replicate 64 (Value.int .u8 0)).toArray 98)).alloc (.cells #[.slice ad len cap] 100))
 obtain ⟨Z,hZ⟩:∃ Z,(List.replicate 64 (Value.int .u8 0)).toArray=Z:=⟨_,rfl⟩
 rw [hZ] at hz64 ⊢
 clear hZ
 obtain ⟨W0,hW0⟩:∃ W0,((w.alloc (.cells #[.int .i64 (a:Int)] 3)).alloc (.cells Z 98)).alloc (.cells #[.slice ad len cap] 100)=W0:=⟨_,rfl⟩
 have hB0:Below w.heap.size w W0:=by rw [←hW0];exact (((Below.refl _ w).alloc (Nat.le_refl _) _).alloc (by simp) _).alloc (by simp;omega) _
 have hsz:W0.heap.size=w.heap.size+3:=by rw [←hW0];simp
 have b0:W0.heap[w.heap.size]? = some (.cells #[.int .i64 (a:Int)] 3 (0,0)):=by
  rw [←hW0,Below.heap_alloc _ _ _ (by simp;omega),Below.heap_alloc _ _ _ (by simp)];exact heap_alloc_new w _
 have b1:W0.heap[w.heap.size+1]? = some (.cells Z 98 (0,0)):=by
  rw [←hW0,Below.heap_alloc _ _ _ (by simp)];have:=heap_alloc_new (w.alloc (.cells #[.int .i64 (a:Int)] 3)) (.cells Z 98);simpa using this
 have b2:W0.heap[w.heap.size+1+1]? = some (.cells #[.slice ad len cap] 100 (0,0)):=by
  rw [←hW0];have:=heap_alloc_new ((w.alloc (.cells #[.int .i64 (a:Int)] 3)).alloc (.cells Z 98)) (.cells #[.slice ad len cap] 100);simpa using this
 rw [hW0]
 clear hW0
 have hBK0:Yh1 W0.heap.size W0 (.slice ad len cap) zs:=by
  rcases HBK.out.below hB0 with h | ⟨b,c,h1,h2,h3⟩
  ·exact .inl h
  ·exact .inr ⟨b,c,h1,by omega,h3⟩
 have hI93:(prog.info? 98).map (·.size)=some 64:=Yj0
 have HB0:=Yh hB0
 clear HBK hB0
 refine (wpIn_wide (n:=10)).1 ?_
 refine wpIn_rangeFunc_ownH (F:=Fence.wide) (n:=10) rfl (by omega) (gf:=202) (lb:=#[.pointer (some ⟨w.heap.size+1+1,0,none⟩)]) rfl trivial (enters_of func202 (by kernel_rfl) rfl)
  (Ywd Fence.wide 9 trivial rfl (by omega) (w.heap.size+1+1) W0.heap.size (.slice ad len cap) zs (by omega) W0 (by omega) (Nat.le_refl _) (Yaa b2 rfl) hBK0) belowK_t (belowK_b (Nat.le_refl _)) (Below.refl _ _) (fun _=>rfl)
  (fun pre W=>(∀ y∈pre,y.1.2.1≠a)∧Below W0.heap.size W0 W)
  (fun c pre W=>(c=.ret∧∃ pre' x,pre=pre' ++ [x]∧(∀ y∈pre',y.1.2.1≠a)∧x.1.2.1=a∧W.heap[w.heap.size+1]? = some (.cells x.1.2.2.toArray 98 (0,0)))∧Below w.heap.size w W)
  (OwnFrom.and (ownFrom_pure _ _) (ownFrom_below (Nat.le_refl _) (Nat.le_refl _)))
  (fun c s A B row hs hg hr=>by
   obtain ⟨⟨hc,pre',x,h1,h2,h3,h4⟩,h5⟩:=hs;exact ⟨⟨hc,pre',x,h1,h2,h3,Yla (w.heap.size+1) 98 (fun (_:Unit)=>x.1.2.2.toArray) () A B row h4 hg (fun r e=>(hr r e).2)⟩,ownFrom_below (β:=Unit) (Nat.le_refl _) (by omega) () A B row h5 hg hr⟩)
  ⟨by simp,Below.refl _ _⟩
  (fun x a' W=>∃ Bx,W0.heap.size≤Bx∧W.heap[Bx]? = some (.cells x.cells.toArray 143 (0,0))∧a' = { tmps:=#[.pointer (some ⟨db,0,none⟩),.int .i64 (a:Int),undef,.pointer (some ⟨w.heap.size,0,none⟩),.pointer (some ⟨w.heap.size+1,0,none⟩),undef,.pointer (some ⟨Bx,0,none⟩),.pointer (some ⟨db,0,none⟩),.pointer (some ⟨db,0,none⟩),.pointer (some ⟨db,27776,none⟩),.slice ad len cap,.func (.func 202) #[] #[.pointer (some ⟨w.heap.size+1+1,0,none⟩)],.int .i64 (x.1.1:Int),.agg x.cells.toArray,undef,undef,undef,undef,undef,undef,undef,undef,undef,undef,undef,undef],defers:=[] })
  (fun x a' _ X Y row hs hg hr=>by obtain ⟨Bx,e1,e2,e3⟩:=hs;exact ⟨Bx,e1,Yla Bx 143 (fun (_:Unit)=>x.cells.toArray) () X Y row e2 hg (fun r e=>(hr r e).2),e3⟩)
  ?assign ?body ?done ?stop
 case assign=>
  rintro l pre x W K ⟨hp,hB1⟩ hK;have hi149:(prog.info? 143).map (·.size)=some x.cells.toArray.size:=by rw [List.size_toArray,Wr.cells_length];exact Ym5
  have HC1:Hid (x.cells.toArray.all (·.oneCell')=true):=all_oneCell_toArray (Wr.cells_one x);gi_wp2_with (first
   | (
    refine Yv9 rfl 143 (.tmp 6) (.tmp 13) rfl _ x.cells.toArray (by rfl) (by rfl) ?hz hi149 HC1.out ?_
    case hz=>rw [Ym0];simp [Wr.cells_length]))
  exact hK _ _ ((KeepsOthers.alloc _ _).from _) ((Below.refl _ W).alloc hB1.size _) ⟨hp,hB1.alloc hB1.size _⟩ ⟨W.heap.size,hB1.size,heap_alloc_new W _,rfl⟩
 case body=>
  rintro l pre x a' W hl hloop ⟨hp,hB1⟩ ⟨Bx,hBx,bX,rfl⟩ hlt;obtain ⟨⟨i,s,S⟩,h64,hone⟩:=x;have bX':W.heap[Bx]? = some (.cells (Value.int .i64 (s:Int) :: S).toArray 143 (0,0)):=bX;have cX:W.cell? ⟨Bx,0,none⟩=some (.int .i64 (s:Int)):=Yaa bX' rfl;have cA:W.cell? ⟨w.heap.size,0,none⟩=some (.int .i64 (a:Int)):=(hB1.cell (p:=⟨w.heap.size,0,none⟩) (by simp;omega)).trans (Yaa b0 rfl);have HR1:W.rangeAt Bx 1 S:=fun j u hu=>Yaa bX' (by rw [Nat.add_comm];simpa using hu)
  have hb1:W.heap[w.heap.size+1]? = some (.cells Z 98 (0,0)):=(hB1.block _ (by omega)).trans b1;have HB1:=Yh hB1;have HBX:=Yh hb1;have hT:W.there (w.heap.size+1) 0 S.toArray.size:=Yis hb1 _ _ (by simp at h64 ⊢;omega);have hi107:(prog.info? 98).map (·.size)=some S.length:=by simp at h64;rw [h64];exact Yj0
  have HS1:Hid (S.toArray.all (·.oneCell')=true):=all_oneCell_toArray hone;clear bX bX' hb1 hB1;by_cases hsa:s=a
  ·have hse:((s:Int) == (a:Int))=true:=by simp [hsa]
   gi_wp2_with (first
    | (refine Yqb rfl 98 (.tmp 18) rfl Bx 1 (by rfl) S _ HR1 underlying98 rfl hi107 ?_)
    | (refine Yv8 rfl 98 (.tmp 4) (.tmp 19) rfl (w.heap.size+1) 0 S.toArray (by rfl) (by rfl) hT (by simpa using hi107) HS1.out ?_))
   have e1:(W.setCells (w.heap.size+1) 0 S).heap[w.heap.size+1]? = some (.cells S.toArray 98 (0,0)):=by
    rw [Yhz S W _ 0 Z _ HBX.out,Yqe Z S (by simp at h64;omega)]
   have e2:Below w.heap.size w (W.setCells (w.heap.size+1) 0 S):=(HB0.out.trans (HB1.out.mono HB0.out.size)).trans (Yiu S W _ 0 (by omega));exact ⟨(Ym8 S W _ 0).from _,⟨rfl,pre,⟨(i,s,S),h64,hone⟩,rfl,hp,hsa,e1⟩,e2⟩
  ·have hse:((s:Int) == (a:Int))=false:=by simp;omega
   gi_wp2;refine ⟨KeepsFrom.refl _ _,Below.refl _ _,fun y hy=>?_,HB1.out⟩;rcases List.mem_append.1 hy with h | h
   ·exact hp y h
   ·simp at h;subst h;exact hsa
 case done=>
  rintro Dk ys W hDk rfl ⟨hp,hB1⟩ hK;have cA:W.cell? ⟨w.heap.size,0,none⟩=some (.int .i64 (a:Int)):=(hB1.cell (p:=⟨w.heap.size,0,none⟩) (by simp;omega)).trans (Yaa b0 rfl);have hb1:W.heap[w.heap.size+1]? = some (.cells Z 98 (0,0)):=(hB1.block _ (by omega)).trans b1;have HBX:=Yh hb1;have HB2:Hid (Below w.heap.size w W):=HB0.out.trans (hB1.mono HB0.out.size);have hr:W.rangeAt db (a*64) X.toList:=HR.out W HB2.out;have hT:W.there (w.heap.size+1) 0 X.toList.toArray.size:=Yis hb1 _ _ (by have:=HDs.out;simp;omega);have hi107:(prog.info? 98).map (·.size)=some X.toList.length:=by have:=HDs.out;rw [Array.length_toList,this];exact Yj0
  have HS1:Hid (X.toList.toArray.all (·.oneCell')=true):=all_oneCell_toArray HD1.out;have HZ:Hid (Yay D ws a=X.toList):=HN.out hp;have haI:(a:Int)<434:=by omega
  clear hb1 hB1 HN HF hc b0 b1 b2 hBK0;go_wp2;refine Code.wp_mono (Ywh _) ?_;refine wp_region_any (by kernel_rfl) ?_;change wpAny _ _ _ _ _ _ _ W.drew;refine wpAny_take (i:=0) (v:=(Value.pointer (some ⟨db,0,none⟩))) rfl (by kernel_rfl) (by kernel_rfl) (by kernel_rfl) (fun _ _ _ h=>h) (Or.inl ⟨by rfl,?_⟩) ?_
  ·intro wz;go_simp
  refine wpAny_take (i:=2) (v:=(Value.pointer (some ⟨db,0,none⟩))) rfl (by kernel_rfl) (by kernel_rfl) (by kernel_rfl) (fun _ _ _ h=>h) (Or.inl ⟨by rfl,?_⟩) ?_
  ·intro wz;go_simp
  refine wpAny_take (i:=3) (v:=(Value.pointer (some ⟨db,0,none⟩))) rfl (by kernel_rfl) (by kernel_rfl) (by kernel_rfl) (fun _ _ _ h=>h) (Or.inl ⟨by rfl,?_⟩) ?_
  ·intro wz;go_simp
  refine wpAny_ready (rs:=[1]) (by kernel_rfl) (by simp) ?_;refine AllReady.cons rfl (fun K hK=>?_) AllReady.nil;go_simp;refine hK _ _ ?_;clear hK K;refine wpAny_ready (rs:=[4]) (by kernel_rfl) (by simp) ?_;refine AllReady.cons rfl (fun K hK=>?_) AllReady.nil;go_simp;refine hK _ _ ?_;clear hK K;refine wpAny_ready (rs:=[5]) (by kernel_rfl) (by simp) ?_;refine AllReady.cons rfl (fun K hK=>?_) AllReady.nil;refine Yiq rfl 98 (.tmp 24) rfl db (a*64) (by rfl) X.toList _ hr underlying98 rfl hi107 ?_;refine hK _ _ ?_;clear hK K;refine wpAny_ready (rs:=[6]) (by kernel_rfl) (by simp) ?_;refine AllReady.cons rfl (fun K hK=>?_) AllReady.nil;refine Ym6 rfl 98 (.tmp 4) (.tmp 25) rfl (w.heap.size+1) 0 X.toList.toArray (by rfl) (by rfl) hT (by simpa using hi107) HS1.out ?_;refine hK _ _ ?_;clear hK K;refine wpAny_done (by kernel_rfl) (Ywi ?_) _;go_wp2;have e1:(W.drew.setCells (w.heap.size+1) 0 X.toList).heap[w.heap.size+1]? = some (.cells X.toList.toArray 98 (0,0)):=by
   rw [Yhz X.toList W.drew _ 0 Z _ HBX.out,Yqe Z X.toList (by have:=HDs.out;simp;omega)]
  have e2:Below w.heap.size w (W.drew.setCells (w.heap.size+1) 0 X.toList):=HB2.out.drew.trans (Yiu X.toList W.drew _ 0 (by omega));have hK':(W.drew.setCells (w.heap.size+1) 0 X.toList).heap[Dk]? = some (.deferred (some [])):=(Ym8 X.toList W.drew (w.heap.size+1) 0).same Dk _ hK rfl;refine ⟨by simp,.inl ⟨_,_,rfl,run_takeDeferred hK',?_⟩⟩;refine ⟨.agg X.toList.toArray,results_cell_row Tryz.results107 _ _ (w.heap.size+1) 98 X.toList.toArray (0,0) _ rfl (Yla (w.heap.size+1) 98 (fun (_:Unit)=>X.toList.toArray) () _ _ (some Dk) e1 (grownBy_putObj' _ Dk (.deferred none)) (fun r e=>by cases e;exact ⟨_,hK',rfl⟩)) underlying98 rfl (by simpa using hi107),by rw [HZ.out],e2.trans (belowK_b (w:=w) (Nat.le_refl _) _ Dk _ _ (by omega) hK' rfl rfl)⟩
 case stop=>
  rintro Dk c pre W hDk hpre ⟨⟨rfl,pre',x,rfl,h2,h3,h4⟩,h5⟩ hK;have HZ:=HF.out pre' x hpre h2 h3;gi_wp2;refine ⟨by simp,.inl ⟨_,_,rfl,run_takeDeferred hK,?_⟩⟩;have hi107:(prog.info? 98).map (·.size)=some x.1.2.2.length:=by rw [x.2.1];exact Yj0
  refine ⟨.agg x.1.2.2.toArray,results_cell_row Tryz.results107 _ _ (w.heap.size+1) 98 x.1.2.2.toArray (0,0) _ rfl (Yla (w.heap.size+1) 98 (fun (_:Unit)=>x.1.2.2.toArray) () _ _ (some Dk) h4 (grownBy_putObj' _ Dk (.deferred none)) (fun r e=>by cases e;exact ⟨_,hK,rfl⟩)) underlying98 rfl (by simpa using hi107),by rw [HZ],h5.trans (belowK_b (w:=w) (Nat.le_refl _) _ Dk _ _ (by omega) hK rfl rfl)⟩
end Go.Proofs.YtihbngfbcnojcaaGreat
namespace Go.Proofs.YtihbngfbcnojcaaGreat
open Go.RowKit Tryz
variable {W w:World}
def u8s (l:List Int):List Value:=l.map (Value.int .u8)
theorem Yj2 (l:List Int):(u8s l).length=l.length:=by simp [u8s]
def Sec (l:List Int):Prop:=l.length=64∧∀ x∈l,0≤x∧x<256
def st1 (l:List Int):Int:=Ybk (l.take 4)
def st2 (l:List Int):Int:=Ybk ((l.drop 4).take 4)
def st3 (l:List Int):Int:=Ybk ((l.drop 56).take 4)
def st4 (l:List Int):Int:=Ybk ((l.drop 60).take 4)
theorem Ywk {b:Nat} {l:List Int} {t:TypeId} (h:w.heap[b]? = some (.cells (u8s l).toArray t (0,0))) (hr:∀ x∈l,0≤x∧x<256) (k n:Nat):Yd8 w b k ((l.drop k).take n):=fun j x hj=>by
 have hj':l[k+j]? = some x:=by
  rw [List.getElem?_take] at hj;split at hj
  ·rw [List.getElem?_drop] at hj;exact hj
  ·cases hj
 exact ⟨Yaa h (by simp [u8s,hj']),hr x (List.mem_of_getElem? hj')⟩
theorem bal {B:Nat} {w0:World} (hz:B≤w0.heap.size) (h:Below B w0 W) (o:Obj):Below B w0 (W.alloc o):=h.alloc (by have:=h.size;omega) o
theorem Ywl (w:World) (o1 o2 o3:Obj):((((w.alloc o1).alloc o2).alloc o3).heap[w.heap.size]? = some o1)∧((((w.alloc o1).alloc o2).alloc o3).heap[w.heap.size+1]? = some o2)∧((((w.alloc o1).alloc o2).alloc o3).heap[w.heap.size+2]? = some o3)∧(((w.alloc o1).alloc o2).alloc o3).heap.size=w.heap.size+3∧Below w.heap.size w (((w.alloc o1).alloc o2).alloc o3):=by
 refine ⟨?_,?_,?_,by simp,(((Below.refl _ w).alloc (Nat.le_refl _) _).alloc (by simp) _).alloc (by simp;omega) _⟩
 ·rw [Below.heap_alloc _ _ _ (by simp;omega),Below.heap_alloc _ _ _ (by simp)];exact heap_alloc_new w _
 ·rw [Below.heap_alloc _ _ _ (by simp)]
  have:=heap_alloc_new (w.alloc o1) o2;simpa using this
 ·have:=heap_alloc_new ((w.alloc o1).alloc o2) o3;simpa using this
theorem Yqg (l:List Int) (hl:Sec l) (w:World):
 Calls prog 166 #[.agg (u8s l).toArray] w fun e w'=>e=.returned (.tuple #[.agg #[.int .u32 (st1 l),.int .u32 (st2 l)],.agg #[.int .u32 (st3 l),.int .u32 (st4 l)]])∧Below w.heap.size w w':=by
 obtain ⟨S,hS⟩:∃ S,u8s l=S:=⟨_,rfl⟩
 have hsz:S.length=64:=by rw [←hS,Yj2];exact hl.1
 have HA:Hid (∀ (W:World) (k n:Nat),W.heap[w.heap.size]? = some (.cells S.toArray 98 (0,0))→Yd8 W w.heap.size k ((l.drop k).take n)):=fun W k n h=>Ywk (by rw [hS];exact h) hl.2 k n
 rw [hS]
 have hl1:(l.take 4).length=4:=by have:=hl.1;simp;omega
 have hl2:((l.drop 4).take 4).length=4:=by have:=hl.1;simp;omega
 have hl3:((l.drop 56).take 4).length=4:=by have:=hl.1;simp;omega
 have hl4:((l.drop 60).take 4).length=4:=by have:=hl.1;simp;omega
 have HL:Hid ((l.take 4).length=4∧((l.drop 4).take 4).length=4∧((l.drop 56).take 4).length=4∧((l.drop 60).take 4).length=4):=⟨hl1,hl2,hl3,hl4⟩
 clear hS hl hl1 hl2 hl3 hl4
 go_enter func166,ntmps166
 go_wp2
 obtain ⟨k1,k2,k3,k4,k5⟩:=Ywl w (.cells S.toArray 98) (.cells #[.int .u32 0,.int .u32 0] 168) (.cells #[.int .u32 0,.int .u32 0] 168)
 revert k1 k2 k3 k4 k5
 generalize ((w.alloc (.cells S.toArray 98)).alloc (.cells #[.int .u32 0,.int .u32 0] 168)).alloc (.cells #[.int .u32 0,.int .u32 0] 168)=w0
 intro k1 k2 k3 k4 k5
 have H1:=Yh k1
 have H2:=Yh k2
 have H3:=Yh k3
 have H4:=Yh k4
 have H5:=Yh k5
 have hzz:w.heap.size+3≤w0.heap.size:=by omega
 clear k1 k2 k3 k4 k5
 have HW:Hid (Below (w.heap.size+3) w0 w0):=Below.refl _ _
 have SA:Hid (∀ W,Below (w.heap.size+3) w0 W→Calls prog 212 #[.slice (some ⟨w.heap.size,0,none⟩) 8 64] W fun e w'=>e=.returned (.agg #[.int .u32 (st1 l),.int .u32 (st2 l)])∧Below (w.heap.size+3) w0 w'):=fun W hW=>by
  have hk:=(hW.block w.heap.size (by omega)).trans H1.out;refine (Yp7 w.heap.size 0 64 (l.take 4) ((l.drop 4).take 4) W (Yaj hk) (by omega) (by omega) (HA.out W 0 4 hk) (HA.out W 4 4 hk) HL.out.1 HL.out.2.1).mono ?_;rintro e w' ⟨rfl,hb⟩;exact ⟨rfl,hW.trans (hb.mono (by have:=hW.size;omega))⟩
 have SB:Hid (∀ W,Below (w.heap.size+3) w0 W→Calls prog 212 #[.slice (some ⟨w.heap.size,56,none⟩) 8 8] W fun e w'=>e=.returned (.agg #[.int .u32 (st3 l),.int .u32 (st4 l)])∧Below (w.heap.size+3) w0 w'):=fun W hW=>by
  have hk:=(hW.block w.heap.size (by omega)).trans H1.out;refine (Yp7 w.heap.size 56 8 ((l.drop 56).take 4) ((l.drop 60).take 4) W (Yaj hk) (by omega) (by omega) (HA.out W 56 4 hk) (HA.out W 60 4 hk) HL.out.2.2.1 HL.out.2.2.2).mono ?_;rintro e w' ⟨rfl,hb⟩;exact ⟨rfl,hW.trans (hb.mono (by have:=hW.size;omega))⟩
 have hX:∀ W,Below (w.heap.size+3) w0 W→(W.cell? ⟨w.heap.size+1,0,none⟩=some (.int .u32 0)∧W.cell? ⟨w.heap.size+1,1,none⟩=some (.int .u32 0)∧W.cell? ⟨w.heap.size+2,0,none⟩=some (.int .u32 0)∧W.cell? ⟨w.heap.size+2,1,none⟩=some (.int .u32 0))∧(W.frozen? ⟨w.heap.size+1,0,none⟩=false∧W.frozen? ⟨w.heap.size+1,1,none⟩=false∧W.frozen? ⟨w.heap.size+2,0,none⟩=false∧W.frozen? ⟨w.heap.size+2,1,none⟩=false):=fun W hW=>by
  have q2:=(hW.block (w.heap.size+1) (by omega)).trans H2.out;have q3:=(hW.block (w.heap.size+2) (by omega)).trans H3.out;exact ⟨⟨Yaa q2 rfl,Yaa q2 rfl,Yaa q3 rfl,Yaa q3 rfl⟩,Yah 0 q2,Yah 1 q2,Yah 0 q3,Yah 1 q3⟩
 have HX:=Yh hX
 clear hX
 go_region_with (first
  | (go_at_call_of 212 (64:Nat);go_must (
   refine (SA.out _ ?hW).mono ?_
   case hW=>repeat (first | exact HW.out | refine bal hzz ?_ _ | refine Below.drew ?_)
   rintro e w1 ⟨rfl,hW1⟩;have HW1:=Yh hW1;clear hW1))
  | (go_at_call 212;go_must (
   refine (SB.out _ ?hW).mono ?_
   case hW=>repeat (first | exact HW1.out | refine bal hzz ?_ _ | refine Below.drew ?_)
   rintro e w2 ⟨rfl,hW2⟩;have HW2:=Yh hW2;obtain ⟨⟨y1,y2,y3,y4⟩,z1,z2,z3,z4⟩:=HX.out w2 hW2;clear hW2)))
 all_goals
  go_wp2;have q2:=(HW2.out.block (w.heap.size+1) (by omega)).trans H2.out;have q3:=(HW2.out.block (w.heap.size+1+1) (by omega)).trans H3.out;obtain ⟨x1,hx1⟩:∃ x,Value.int .u32 (st1 l)=x:=⟨_,rfl⟩;obtain ⟨x2,hx2⟩:∃ x,Value.int .u32 (st2 l)=x:=⟨_,rfl⟩;obtain ⟨x3,hx3⟩:∃ x,Value.int .u32 (st3 l)=x:=⟨_,rfl⟩;obtain ⟨x4,hx4⟩:∃ x,Value.int .u32 (st4 l)=x:=⟨_,rfl⟩;rw [hx1,hx2,hx3,hx4];have r2:((((w2.setCell ⟨w.heap.size+1,0,none⟩ x1).setCell ⟨w.heap.size+1,1,none⟩ x2).setCell ⟨w.heap.size+1+1,0,none⟩ x3).setCell ⟨w.heap.size+1+1,1,none⟩ x4).heap[w.heap.size+1]? = some (.cells #[x1,x2] 168 (0,0)):=by
   rw [Below.heap_setCell _ _ _ _ (by simp),Below.heap_setCell _ _ _ _ (by simp)];exact Yak _ _ 1 x2 _ _ (Yak w2 _ 0 x1 _ _ q2)
  have r3:((((w2.setCell ⟨w.heap.size+1,0,none⟩ x1).setCell ⟨w.heap.size+1,1,none⟩ x2).setCell ⟨w.heap.size+1+1,0,none⟩ x3).setCell ⟨w.heap.size+1+1,1,none⟩ x4).heap[w.heap.size+1+1]? = some (.cells #[x3,x4] 168 (0,0)):=by
   have q3':((w2.setCell ⟨w.heap.size+1,0,none⟩ x1).setCell ⟨w.heap.size+1,1,none⟩ x2).heap[w.heap.size+1+1]? = some (.cells #[.int .u32 0,.int .u32 0] 168 (0,0)):=by
    rw [Below.heap_setCell _ _ _ _ (by simp),Below.heap_setCell _ _ _ _ (by simp)];exact q3
   exact Yak _ _ 1 x4 _ _ (Yak _ _ 0 x3 _ _ q3')
  have rb:Below w.heap.size w ((((w2.setCell ⟨w.heap.size+1,0,none⟩ x1).setCell ⟨w.heap.size+1,1,none⟩ x2).setCell ⟨w.heap.size+1+1,0,none⟩ x3).setCell ⟨w.heap.size+1+1,1,none⟩ x4):=
   ((((H5.out.trans (HW2.out.mono (by omega))).setCell (p:=⟨w.heap.size+1,0,none⟩) (by simp) _).setCell (p:=⟨w.heap.size+1,1,none⟩) (by simp) _).setCell (p:=⟨w.heap.size+1+1,0,none⟩) (by simp;omega) _).setCell (p:=⟨w.heap.size+1+1,1,none⟩) (by simp;omega) _
  revert r2 r3 rb;generalize ((((w2.setCell ⟨w.heap.size+1,0,none⟩ x1).setCell ⟨w.heap.size+1,1,none⟩ x2).setCell ⟨w.heap.size+1+1,0,none⟩ x3).setCell ⟨w.heap.size+1+1,1,none⟩ x4)=wf;intro r2 r3 rb;have m0:=Yaa (j:=0) r2 rfl;have m1:=Yaa (j:=1) r2 rfl;have m2:=Yaa (j:=0) r3 rfl;have m3:=Yaa (j:=1) r3 rfl;refine bodyPost_ret (v:=.tuple #[.agg #[x1,x2],.agg #[x3,x4]]) ?_ rfl ⟨rfl,rb⟩;simp [results,Tryz.results166,go_sem,m0,m1,m2,m3]
theorem Ywm (l:List Int) (hl:Sec l) (w:World) (t:Bool) (ht:(decide (st1 l=st3 l∧st2 l=st4 l)) = !t):
 Calls prog 118 #[.agg (u8s l).toArray] w fun e w'=>e=.returned (.bool t)∧Below w.heap.size w w':=by
 have KE:=fun w=>Yqg l hl w
 obtain ⟨S,hS⟩:∃ S,u8s l=S:=⟨_,rfl⟩
 have hsz:S.length=64:=by rw [←hS,Yj2];exact hl.1
 rw [hS] at KE ⊢
 obtain ⟨q1,hq1⟩:∃ q,st1 l=q:=⟨_,rfl⟩
 obtain ⟨q2,hq2⟩:∃ q,st2 l=q:=⟨_,rfl⟩
 obtain ⟨q3,hq3⟩:∃ q,st3 l=q:=⟨_,rfl⟩
 obtain ⟨q4,hq4⟩:∃ q,st4 l=q:=⟨_,rfl⟩
 rw [hq1,hq2,hq3,hq4] at KE ht
 have hi:(prog.info? 98).map (·.size)=some S.length:=by rw [hsz];kernel_rfl
 have HR:Hid ((w.alloc (.cells S.toArray 98)).rangeAt w.heap.size 0 S):=fun j u hu=>by rw [Nat.zero_add];exact Yaa (heap_alloc_new w _) (by simpa using hu)
 have HT:=Yh ht
 clear hS hl hq1 hq2 hq3 hq4 ht
 go_enter func118,ntmps118
 go_wp2_with (first
  | (refine wpList_load_mid rfl 98 (.tmp 1) rfl w.heap.size 0 (by rfl) S _ HR.out underlying98 rfl hi ?_)
  | (go_at_call 166;go_must (
   refine (KE _).mono ?_;rintro e w1 ⟨rfl,hb1⟩;have HB1:Hid (Below w.heap.size w w1):=((Below.refl _ _).alloc (Nat.le_refl _) _).trans (hb1.mono (by simp));clear hb1)))
 all_goals
  go_ret;refine ⟨?_,(HB1.out.alloc HB1.out.size _).alloc (by have:=HB1.out.size;simp;omega) _⟩;have hh:=HT.out
  cases t <;> simp_all
theorem Ym9 (w:World):
 Calls prog 168 #[] w fun e w'=>e=.returned (.agg #[.int .u32 4294967295,.int .u32 4294967295])∧Below w.heap.size w w':=by
 go_enter func168,ntmps168
 go_wp2
 exact bodyPost_ret (results_cell_row Tryz.results168 _ _ w.heap.size 168 _ (0,0) _ rfl (heap_alloc_new w _) underlying168 rfl (by kernel_rfl)) rfl ⟨rfl,(Below.refl _ _).alloc (Nat.le_refl _) _⟩
def Y5y (l:List Int):Bool:=decide (st1 l=st3 l∧st2 l=st4 l) && !decide (st1 l=4294967295∧st2 l=4294967295)
theorem Yj3 {S:List Value} {T:TypeId} (hB:Below w.heap.size w W) (h1:W.heap[w.heap.size+1]? = some (.cells #[.int .u32 0,.int .u32 0] 168 (0,0))) (h0:W.heap[w.heap.size]? = some (.cells S.toArray T (0,0))) (x y:Value):
 Below w.heap.size w ((W.setCell ⟨w.heap.size+1,0,none⟩ x).setCell ⟨w.heap.size+1,1,none⟩ y)∧((W.setCell ⟨w.heap.size+1,0,none⟩ x).setCell ⟨w.heap.size+1,1,none⟩ y).heap[w.heap.size]? = some (.cells S.toArray T (0,0))∧((W.setCell ⟨w.heap.size+1,0,none⟩ x).setCell ⟨w.heap.size+1,1,none⟩ y).heap[w.heap.size+1]? = some (.cells #[x,y] 168 (0,0)):=by
 refine ⟨(hB.setCell (p:=⟨w.heap.size+1,0,none⟩) (by simp) _).setCell (p:=⟨w.heap.size+1,1,none⟩) (by simp) _,?_,?_⟩
 ·rw [Below.heap_setCell _ _ _ _ (by simp),Below.heap_setCell _ _ _ _ (by simp)];exact h0
 ·exact Yak _ _ 1 y _ 168 (Yak W (w.heap.size+1) 0 x _ 168 h1)
theorem Ywn (l:List Int) (hl:Sec l) (w:World) (t i:Bool) (ht:(decide (st1 l=st3 l∧st2 l=st4 l)) = !t) (hi:decide (st1 l=4294967295∧st2 l=4294967295)=i):
 Calls prog 151 #[.agg (u8s l).toArray] w fun e w'=>Below w.heap.size w w' ∧
  (t=false∧i=false→e=.returned (.tuple #[.agg #[.int .u32 (st1 l),.int .u32 (st2 l)],.slice (some ⟨w.heap.size,8,none⟩) 48 56,.bool true])∧w'.heap[w.heap.size]? = some (.cells (u8s l).toArray 98 (0,0))) ∧
  (¬(t=false∧i=false)→e=.returned (.tuple #[.agg #[.int .u32 0,.int .u32 0],.slice none 0 0,.bool false])):=by
 have KE:=fun w=>Yqg l hl w
 have KT:=fun w=>Ywm l hl w t ht
 obtain ⟨S,hS⟩:∃ S,u8s l=S:=⟨_,rfl⟩
 have hsz:S.length=64:=by rw [←hS,Yj2];exact hl.1
 rw [hS] at KE KT ⊢
 obtain ⟨q1,hq1⟩:∃ q,st1 l=q:=⟨_,rfl⟩
 obtain ⟨q2,hq2⟩:∃ q,st2 l=q:=⟨_,rfl⟩
 obtain ⟨q3,hq3⟩:∃ q,st3 l=q:=⟨_,rfl⟩
 obtain ⟨q4,hq4⟩:∃ q,st4 l=q:=⟨_,rfl⟩
 rw [hq1,hq2,hq3,hq4] at KE
 rw [hq1,hq2] at hi ⊢
 have hi9:(prog.info? 98).map (·.size)=some S.length:=by rw [hsz];kernel_rfl
 have HR:Hid (∀ W:World,W.heap[w.heap.size]? = some (.cells S.toArray 98 (0,0))→W.rangeAt w.heap.size 0 S):=fun W hW j u hu=>by rw [Nat.zero_add];exact Yaa hW (by simpa using hu)
 have HKE:=Yh KE
 have HKT:=Yh KT
 clear hS hl hq1 hq2 hq3 hq4 ht KE KT
 go_enter func151,ntmps151
 go_wp2_with (first
  | (refine wpList_load_mid rfl 98 (.tmp 1) rfl w.heap.size 0 (by rfl) S _ (HR.out _ ((Below.heap_alloc _ _ _ (by simp)).trans (heap_alloc_new w _))) underlying98 rfl hi9 ?_)
  | (go_at_call 166;go_must (
   refine (HKE.out _).mono ?_;rintro e w1 ⟨rfl,hb1⟩;have HB1:Hid (Below (w.heap.size+2) ((w.alloc (.cells S.toArray 98)).alloc (.cells #[.int .u32 0,.int .u32 0] 168)) w1):=by show Below _ _ _;simpa using hb1
   clear hb1)))
 have hz1:w.heap.size+2≤w1.heap.size:=by have:=HB1.out.size;simp at this;omega
 have s0:w1.heap[w.heap.size]? = some (.cells S.toArray 98 (0,0)):=(HB1.out.block _ (by omega)).trans ((Below.heap_alloc _ _ _ (by simp)).trans (heap_alloc_new w _))
 have s1:w1.heap[w.heap.size+1]? = some (.cells #[.int .u32 0,.int .u32 0] 168 (0,0)):=(HB1.out.block _ (by omega)).trans (by have:=heap_alloc_new (w.alloc (.cells S.toArray 98)) (.cells #[.int .u32 0,.int .u32 0] 168);simpa using this)
 obtain ⟨W2,hW2⟩:∃ W2,(w1.alloc (.cells #[.int .u32 q1,.int .u32 q2] 168)).alloc (.cells #[.int .u32 q3,.int .u32 q4] 168)=W2:=⟨_,rfl⟩
 have HB2:Hid (Below w.heap.size w W2):=by
  show Below _ _ _;rw [←hW2];exact ((((((Below.refl _ w).alloc (Nat.le_refl _) _).alloc (by simp) _).trans (HB1.out.mono (by omega))).alloc (by omega) _)).alloc (by simp;omega) _
 have hs0:W2.heap[w.heap.size]? = some (.cells S.toArray 98 (0,0)):=by rw [←hW2,Below.heap_alloc _ _ _ (by simp;omega),Below.heap_alloc _ _ _ (by omega)];exact s0
 have hs1:W2.heap[w.heap.size+1]? = some (.cells #[.int .u32 0,.int .u32 0] 168 (0,0)):=by rw [←hW2,Below.heap_alloc _ _ _ (by simp;omega),Below.heap_alloc _ _ _ (by omega)];exact s1
 have hs5:W2.heap[w1.heap.size]? = some (.cells #[.int .u32 q1,.int .u32 q2] 168 (0,0)):=by rw [←hW2,Below.heap_alloc _ _ _ (by simp)];exact heap_alloc_new w1 _
 rw [hW2]
 generalize w1.heap.size+1=p6
 generalize w1.heap.size=p5 at hs5
 clear hW2 s0 s1 hz1 HB1
 have HS0:=Yh hs0
 have HS1:=Yh hs1
 have HS5:=Yh hs5
 have hrg:W2.rangeAt w.heap.size 0 S:=HR.out W2 hs0
 have r5:=Yaa (j:=0) hs5 rfl
 have r6:=Yaa (j:=1) hs5 rfl
 have HU:=underlying98
 clear hs0 hs1 hs5
 cases t with
 | true=>
  refine wp_region_any (by kernel_rfl) ?_;change wpAny _ _ _ _ _ _ _ W2.drew;refine wpAny_ready (rs:=[0]) (by kernel_rfl) (by simp) ?_;refine AllReady.cons rfl (fun K hK=>?_) AllReady.nil;refine Yiq rfl 98 (.tmp 1) rfl w.heap.size 0 (by rfl) S _ hrg HU rfl hi9 ?_;refine hK _ _ ?_;clear hK K;refine wpAny_ready (rs:=[1]) (by kernel_rfl) (by simp) ?_;refine AllReady.cons rfl (fun K hK=>?_) AllReady.nil;go_simp;refine (HKT.out _).mono ?_;rintro e w3 ⟨rfl,hb3⟩;have HB3:Hid (Below W2.heap.size W2 w3):=(Below.refl _ _).drew.trans hb3;have q0:=(HB3.out.block _ (Yaj HS1.out)).trans HS1.out;have c0:=Yaa (j:=0) q0 rfl;have c1:=Yaa (j:=1) q0 rfl;have f0:=Yah 0 q0;have f1:=Yah 1 q0;clear hb3 q0;refine hK _ _ ?_;clear hK K;refine wpAny_ready (rs:=[2]) (by kernel_rfl) (by simp) ?_;refine AllReady.cons rfl (fun K hK=>?_) AllReady.nil;go_simp;refine hK _ _ ?_;clear hK K;refine wpAny_ready (rs:=[3,4]) (by kernel_rfl) (by simp) ?_;refine AllReady.cons rfl (fun K hK=>?_) (AllReady.cons rfl (fun K hK=>?_) AllReady.nil)
  ·go_simp
   refine hK _ _ ?_;clear hK K;refine wpAny_ready (rs:=[4]) (by kernel_rfl) (by simp) ?_;refine AllReady.cons rfl (fun K hK=>?_) AllReady.nil;go_simp;refine hK _ _ ?_;clear hK K;refine wpAny_ready (rs:=[5]) (by kernel_rfl) (by simp) ?_;refine AllReady.cons rfl (fun K hK=>?_) AllReady.nil;go_simp;refine hK _ _ ?_;clear hK K;refine wpAny_ready (rs:=[6]) (by kernel_rfl) (by simp) ?_;refine AllReady.cons rfl (fun K hK=>?_) AllReady.nil;go_simp;refine hK _ _ ?_;clear hK K;refine wpAny_done (by kernel_rfl) ?_ _;go_wp2;obtain ⟨k1,k2,k3⟩:=Yj3 (HB2.out.trans (HB3.out.mono HB2.out.size)) ((HB3.out.block _ (Yaj HS1.out)).trans HS1.out) ((HB3.out.block _ (Yaj HS0.out)).trans HS0.out) (.int .u32 0) (.int .u32 0);have m0:=Yaa (j:=0) k3 rfl;have m1:=Yaa (j:=1) k3 rfl;refine bodyPost_ret (v:=.tuple #[.agg #[.int .u32 0,.int .u32 0],.slice none 0 0,.bool false]) ?_ rfl ⟨k1,fun h=>absurd h.1 (by simp),fun _=>rfl⟩;simp [results,Tryz.results151,go_sem,m0,m1]
  ·go_simp
   refine hK _ _ ?_;clear hK K;refine wpAny_ready (rs:=[3]) (by kernel_rfl) (by simp) ?_;refine AllReady.cons rfl (fun K hK=>?_) AllReady.nil;go_simp;refine hK _ _ ?_;clear hK K;refine wpAny_ready (rs:=[5]) (by kernel_rfl) (by simp) ?_;refine AllReady.cons rfl (fun K hK=>?_) AllReady.nil;go_simp;refine hK _ _ ?_;clear hK K;refine wpAny_ready (rs:=[6]) (by kernel_rfl) (by simp) ?_;refine AllReady.cons rfl (fun K hK=>?_) AllReady.nil;go_simp;refine hK _ _ ?_;clear hK K;refine wpAny_done (by kernel_rfl) ?_ _;go_wp2;obtain ⟨k1,k2,k3⟩:=Yj3 (HB2.out.trans (HB3.out.mono HB2.out.size)) ((HB3.out.block _ (Yaj HS1.out)).trans HS1.out) ((HB3.out.block _ (Yaj HS0.out)).trans HS0.out) (.int .u32 0) (.int .u32 0);have m0:=Yaa (j:=0) k3 rfl;have m1:=Yaa (j:=1) k3 rfl;refine bodyPost_ret (v:=.tuple #[.agg #[.int .u32 0,.int .u32 0],.slice none 0 0,.bool false]) ?_ rfl ⟨k1,fun h=>absurd h.1 (by simp),fun _=>rfl⟩;simp [results,Tryz.results151,go_sem,m0,m1]
 | false=>
  cases i with
  | true=>
   simp only [decide_eq_true_eq] at hi;obtain ⟨rfl,rfl⟩:=hi;go_region_held3 (fun w'=>w'.rangeAt w.heap.size 0 S∧w'.cell? ⟨p5,0,none⟩=some (.int .u32 4294967295)∧w'.cell? ⟨p5,1,none⟩=some (.int .u32 4294967295))
    (go_keep)
    (first
   | (go_at_call 118;go_must (
    refine (HKT.out _).mono ?_;rintro e w3 ⟨rfl,hb3⟩;have HB3:Hid (Below W2.heap.size W2 w3):=(Below.refl _ _).drew.trans hb3;have q0:=(HB3.out.block _ (Yaj HS1.out)).trans HS1.out;have c0:=Yaa (j:=0) q0 rfl;have c1:=Yaa (j:=1) q0 rfl;have f0:=Yah 0 q0;have f1:=Yah 1 q0;have r5':=Yaa (j:=0) ((HB3.out.block _ (Yaj HS5.out)).trans HS5.out) rfl;have r6':=Yaa (j:=1) ((HB3.out.block _ (Yaj HS5.out)).trans HS5.out) rfl;have hrg':w3.rangeAt w.heap.size 0 S:=HR.out w3 ((HB3.out.block _ (Yaj HS0.out)).trans HS0.out);clear hb3 q0))
   | (go_at_call 168;go_must (
    refine (Ym9 _).mono ?_;rintro e w4 ⟨rfl,hb4⟩;have HB4:Hid (Below W2.heap.size W2 w4):=HB3.out.trans (hb4.mono HB3.out.size);have q0:=(HB4.out.block _ (Yaj HS1.out)).trans HS1.out;have d0:=Yaa (j:=0) q0 rfl;have d1:=Yaa (j:=1) q0 rfl;have g0:=Yah 0 q0;have g1:=Yah 1 q0;have r5'':=Yaa (j:=0) ((HB4.out.block _ (Yaj HS5.out)).trans HS5.out) rfl;have r6'':=Yaa (j:=1) ((HB4.out.block _ (Yaj HS5.out)).trans HS5.out) rfl;have hrg'':w4.rangeAt w.heap.size 0 S:=HR.out w4 ((HB4.out.block _ (Yaj HS0.out)).trans HS0.out);clear hb4 q0)))
   all_goals
    go_wp2;obtain ⟨k1,k2,k3⟩:=Yj3 (HB2.out.trans (HB4.out.mono HB2.out.size)) ((HB4.out.block _ (Yaj HS1.out)).trans HS1.out) ((HB4.out.block _ (Yaj HS0.out)).trans HS0.out) (.int .u32 0) (.int .u32 0);have m0:=Yaa (j:=0) k3 rfl;have m1:=Yaa (j:=1) k3 rfl;refine bodyPost_ret (v:=.tuple #[.agg #[.int .u32 0,.int .u32 0],.slice none 0 0,.bool false]) ?_ rfl ⟨k1,rfl⟩;simp [results,Tryz.results151,go_sem,m0,m1]
  | false=>
   have HI:Hid (¬(q1=4294967295∧q2=4294967295)):=of_decide_eq_false hi;clear hi;by_cases h1:q1=4294967295
   ·have h2:¬q2=4294967295:=fun h=>HI.out ⟨h1,h⟩
    go_region_held3 (fun w'=>w'.rangeAt w.heap.size 0 S∧w'.cell? ⟨p5,0,none⟩=some (.int .u32 q1)∧w'.cell? ⟨p5,1,none⟩=some (.int .u32 q2))
     (go_keep)
     (first
    | (go_at_call 118;go_must (
     refine (HKT.out _).mono ?_;rintro e w3 ⟨rfl,hb3⟩;have HB3:Hid (Below W2.heap.size W2 w3):=(Below.refl _ _).drew.trans hb3;have q0:=(HB3.out.block _ (Yaj HS1.out)).trans HS1.out;have c0:=Yaa (j:=0) q0 rfl;have c1:=Yaa (j:=1) q0 rfl;have f0:=Yah 0 q0;have f1:=Yah 1 q0;have r5':=Yaa (j:=0) ((HB3.out.block _ (Yaj HS5.out)).trans HS5.out) rfl;have r6':=Yaa (j:=1) ((HB3.out.block _ (Yaj HS5.out)).trans HS5.out) rfl;have hrg':w3.rangeAt w.heap.size 0 S:=HR.out w3 ((HB3.out.block _ (Yaj HS0.out)).trans HS0.out);clear hb3 q0))
    | (go_at_call 168;go_must (
     refine (Ym9 _).mono ?_;rintro e w4 ⟨rfl,hb4⟩;have HB4:Hid (Below W2.heap.size W2 w4):=HB3.out.trans (hb4.mono HB3.out.size);have q0:=(HB4.out.block _ (Yaj HS1.out)).trans HS1.out;have d0:=Yaa (j:=0) q0 rfl;have d1:=Yaa (j:=1) q0 rfl;have g0:=Yah 0 q0;have g1:=Yah 1 q0;have r5'':=Yaa (j:=0) ((HB4.out.block _ (Yaj HS5.out)).trans HS5.out) rfl;have r6'':=Yaa (j:=1) ((HB4.out.block _ (Yaj HS5.out)).trans HS5.out) rfl;have hrg'':w4.rangeAt w.heap.size 0 S:=HR.out w4 ((HB4.out.block _ (Yaj HS0.out)).trans HS0.out);clear hb4 q0)))
    all_goals
     subst h1;go_wp2;go_region
     all_goals
      go_wp2;obtain ⟨k1,k2,k3⟩:=Yj3 (HB2.out.trans (HB4.out.mono HB2.out.size)) ((HB4.out.block _ (Yaj HS1.out)).trans HS1.out) ((HB4.out.block _ (Yaj HS0.out)).trans HS0.out) (.int .u32 4294967295) (.int .u32 q2);have m0:=Yaa (j:=0) k3 rfl;have m1:=Yaa (j:=1) k3 rfl;refine bodyPost_ret (v:=.tuple #[.agg #[.int .u32 4294967295,.int .u32 q2],.slice (some ⟨w.heap.size,8,none⟩) 48 56,.bool true]) ?_ rfl ⟨k1.drew,rfl,k2⟩;simp [results,Tryz.results151,go_sem,m0,m1]
   ·go_region_held3 (fun w'=>w'.rangeAt w.heap.size 0 S∧w'.cell? ⟨p5,0,none⟩=some (.int .u32 q1)∧w'.cell? ⟨p5,1,none⟩=some (.int .u32 q2))
     (go_keep)
     (first
    | (go_at_call 118;go_must (
     refine (HKT.out _).mono ?_;rintro e w3 ⟨rfl,hb3⟩;have HB3:Hid (Below W2.heap.size W2 w3):=(Below.refl _ _).drew.trans hb3;have q0:=(HB3.out.block _ (Yaj HS1.out)).trans HS1.out;have c0:=Yaa (j:=0) q0 rfl;have c1:=Yaa (j:=1) q0 rfl;have f0:=Yah 0 q0;have f1:=Yah 1 q0;have r5':=Yaa (j:=0) ((HB3.out.block _ (Yaj HS5.out)).trans HS5.out) rfl;have r6':=Yaa (j:=1) ((HB3.out.block _ (Yaj HS5.out)).trans HS5.out) rfl;have hrg':w3.rangeAt w.heap.size 0 S:=HR.out w3 ((HB3.out.block _ (Yaj HS0.out)).trans HS0.out);clear hb3 q0))
    | (go_at_call 168;go_must (
     refine (Ym9 _).mono ?_;rintro e w4 ⟨rfl,hb4⟩;have HB4:Hid (Below W2.heap.size W2 w4):=HB3.out.trans (hb4.mono HB3.out.size);have q0:=(HB4.out.block _ (Yaj HS1.out)).trans HS1.out;have d0:=Yaa (j:=0) q0 rfl;have d1:=Yaa (j:=1) q0 rfl;have g0:=Yah 0 q0;have g1:=Yah 1 q0;have r5'':=Yaa (j:=0) ((HB4.out.block _ (Yaj HS5.out)).trans HS5.out) rfl;have r6'':=Yaa (j:=1) ((HB4.out.block _ (Yaj HS5.out)).trans HS5.out) rfl;have hrg'':w4.rangeAt w.heap.size 0 S:=HR.out w4 ((HB4.out.block _ (Yaj HS0.out)).trans HS0.out);clear hb4 q0)))
    all_goals
     go_wp2;go_region
     all_goals
      go_wp2;obtain ⟨k1,k2,k3⟩:=Yj3 (HB2.out.trans (HB4.out.mono HB2.out.size)) ((HB4.out.block _ (Yaj HS1.out)).trans HS1.out) ((HB4.out.block _ (Yaj HS0.out)).trans HS0.out) (.int .u32 q1) (.int .u32 q2);have m0:=Yaa (j:=0) k3 rfl;have m1:=Yaa (j:=1) k3 rfl;refine bodyPost_ret (v:=.tuple #[.agg #[.int .u32 q1,.int .u32 q2],.slice (some ⟨w.heap.size,8,none⟩) 48 56,.bool true]) ?_ rfl ⟨k1.drew,rfl,k2⟩;simp [results,Tryz.results151,go_sem,m0,m1]
def Yh2 (w w':World) (rb gb off len cap n:Nat) (bad:Bool):Prop:=
 Ydm w' rb (some ⟨gb,off+n,none⟩) (len - n) (cap - n) bad∧(∀ k,k≠rb→w'.heap[k]? = w.heap[k]?)∧w'.heap.size=w.heap.size∧Below 0 w w'
theorem Yqh (w:World) (gb off cap:Nat) (s:ByteArray) (hb:∀ j u,(Lib.strCells s)[j]? = some u→w.cell? ⟨gb,off+j,none⟩=some u):
 (convert 46 9 (.slice (some ⟨gb,off,none⟩) s.size cap)).run prog w=.ok (.string s) w:=by
 have h:=run_convert_bytes_back (P:=prog) w 46 9 5 ⟨gb,off,none⟩ cap s.data.toList underlying46 underlying5 underlying9 (fun j hj=>by
  rw [Addr.add_mid];refine hb j _ ?_;simp only [Lib.strCells,List.getElem?_map,List.getElem?_eq_getElem hj,Option.map_some])
 have e1:s.data.toList.length=s.size:=Array.length_toList
 have e2:(⟨s.data.toList.toArray⟩:ByteArray)=s:=by cases s;simp
 rw [e1,e2] at h
 exact h
theorem Yqi (rb gb off len cap l room:Nat) (bad:Bool) (w:World) (hr:Ydm w rb (some ⟨gb,off,none⟩) len cap bad) (hn:room≤len) (hl:len≤cap) (hc:cap≤1000) (hrc:room<cap) (hg:gb≠rb) (hlr:l≤room)
 (s:ByteArray) (hs:s.size=l) (hb:∀ j u,(Lib.strCells s)[j]? = some u→w.cell? ⟨gb,off+j,none⟩=some u):
 Calls prog 221 #[.pointer (some ⟨rb,0,none⟩),.int .i64 l,.int .i64 room] w fun e w'=>e=.returned (.string s)∧Yh2 w w' rb gb off len cap room bad:=by
 have KT:=Yp5 rb gb off len cap room bad w hr hn hl hc
 have HB:=Yh hb
 have HSZ:=Yh hs
 clear hr hb hs
 go_enter func221,ntmps221
 go_wp2_with (first | (go_at_call 201;go_must (
  refine KT.mono ?_;rintro e w1 ⟨rfl,ad,had,hr1,ho1,hz1,hb1⟩;have HFIN:Hid (Yh2 w w1 rb gb off len cap room bad):=⟨by rw [←had hrc];exact hr1,ho1,hz1,hb1⟩;have hcv:=Yqh w1 gb off cap s (fun j u hu=>(World.cell?_of_block (ho1 gb hg)).trans (HB.out j u hu));rw [HSZ.out] at hcv;clear had hr1 ho1 hz1 hb1 KT)))
 go_ret
 exact ⟨rfl,HFIN.out⟩
theorem Ylb (rb gb off len cap room:Nat) (bad:Bool) (w:World) (hr:Ydm w rb (some ⟨gb,off,none⟩) len cap bad) (hn:1+room≤len) (hl:len≤cap) (hc:cap≤1000) (hrc:1+room<cap) (hg:gb≠rb) (h4:room≤200)
 (s:ByteArray) (hs:s.size≤room) (hb:∀ j u,(Ya2 s room)[j]? = some u→w.cell? ⟨gb,off+j,none⟩=some u):
 Calls prog 197 #[.pointer (some ⟨rb,0,none⟩),.int .i64 room] w fun e w'=>e=.returned (.string s)∧Yh2 w w' rb gb off len cap (1+room) bad:=by
 have KN:=Yhd rb gb off len cap 1 bad [(s.size:Int)] w hr (by omega) hl hc hg rfl (fun j b hj=>by
  match j,hj with
  | 0,hj=>
   simp at hj;subst hj;exact ⟨hb 0 _ rfl,by omega,by omega⟩) (by omega)
 have HB:=Yh hb
 have e1:Ybk [(s.size:Int)]=(s.size:Int):=by simp [Ybk]
 rw [e1] at KN
 clear hr hb e1
 go_enter func197,ntmps197
 go_wp2_with (first
  | (go_at_call 152;go_must (
   refine KN.mono ?_;rintro e w1 ⟨rfl,ad,had,hr1,ho1,hz1,hb1⟩;obtain rfl:=had (by omega);have HC:=Yh (Yqi rb gb (off+1) (len - 1) (cap - 1) s.size room bad w1 hr1 (by omega) (by omega) (by omega) (by omega) hg hs s rfl (fun j u hu=>by
    have hjl:j<s.size:=by have:=(List.getElem?_eq_some_iff.1 hu).1;rwa [Lib.strCells_length] at this
    have:=HB.out (1+j) u (by simp only [Ya2];rw [List.getElem?_append_left (by simp [Lib.strCells_length];omega),List.getElem?_append_right (by simp)];simpa using hu);rw [World.cell?_of_block (ho1 gb hg),Nat.add_assoc];exact this))
   have HF:=Yh (And.intro ho1 (And.intro hz1 hb1));clear hr1 ho1 hz1 hb1 had KN))
  | (go_at_call 221;go_must (
   refine Calls.mono HC.out ?_;rintro e w2 ⟨rfl,hrd⟩)))
 go_ret
 obtain ⟨h1,h2,h3,h4'⟩:=hrd
 obtain ⟨g1,g2,g3⟩:=HF.out
 refine ⟨rfl,?_,fun k hk=>(h2 k hk).trans (g1 k hk),h3.trans g2,g3.trans h4'⟩
 rw [Nat.add_assoc,Nat.sub_sub,Nat.sub_sub] at h1
 exact h1
theorem Ywo {s:ByteArray} (h:s.size=0):s=ByteArray.empty:=by
 cases s with
 | mk d=>simp [ByteArray.size] at h;subst h;rfl
theorem Yqj (w w1 w2:World) (rb gb off len cap:Nat) (bad is:Bool) (s:ByteArray) (hrl:rb<w.heap.size)
 (hF:(∀ k,k≠rb→w1.heap[k]? = (w.alloc (.cells #[.bool false,.string ⟨#[]⟩] 38)).heap[k]?)∧w1.heap.size=(w.alloc (.cells #[.bool false,.string ⟨#[]⟩] 38)).heap.size∧Below 0 (w.alloc (.cells #[.bool false,.string ⟨#[]⟩] 38)) w1)
 (hrd:Yh2 w1 w2 rb gb (off+1) (len - 1) (cap - 1) 12 bad) (hk:w2.heap[w.heap.size]? = some (.cells #[.bool false,.string ⟨#[]⟩] 38))
 (a:Act) (ha:a.tmps.getD 2 undef=.pointer (some ⟨w.heap.size,0,none⟩)) (hd:a.defers=[]):
 bodyPost prog Tryz.f198 (fun e w'=>e=.returned (.agg #[.bool is,.string s])∧Ydm w' rb (some ⟨gb,off+13,none⟩) (len - 13) (cap - 13) bad∧(∀ k,k<w.heap.size→k≠rb→w'.heap[k]? = w.heap[k]?)∧Below 0 w w') .ret a
  ((w2.setCell ⟨w.heap.size,0,none⟩ (.bool is)).setCell ⟨w.heap.size,1,none⟩ (.string s)):=by
 have hfin:=Yak _ w.heap.size 1 (.string s) _ 38 (Yak w2 w.heap.size 0 (.bool is) _ 38 hk)
 obtain ⟨h1,h2,h3,h4⟩:=hrd
 obtain ⟨g1,g2,g3⟩:=hF
 have old:∀ k,k<w.heap.size→((w2.setCell ⟨w.heap.size,0,none⟩ (.bool is)).setCell ⟨w.heap.size,1,none⟩ (.string s)).heap[k]? = w2.heap[k]?:=fun k hk=>by
  rw [Below.heap_setCell _ _ _ _ (by simp;omega),Below.heap_setCell _ _ _ _ (by simp;omega)]
 refine bodyPost_ret (v:=.agg #[.bool is,.string s]) ?_ hd ⟨rfl,?_,fun k hk hne=>?_,?_⟩
 ·exact results_cell_row Tryz.results198 _ _ w.heap.size 38 #[.bool is,.string s] (0,0) _ ha hfin underlying38 rfl (by kernel_rfl)
 ·show _=_
  rw [old rb hrl];rw [show off+13=off+1+12 by omega,show len - 13=len - 1 - 12 by omega,show cap - 13=cap - 1 - 12 by omega];exact h1
 ·rw [old k hk,h2 k hne,g1 k hne];exact Below.heap_alloc _ _ _ hk
 ·exact ((((Below.refl 0 w).alloc (by omega) _).trans (g3.trans h4)).setCell (p:=⟨w.heap.size,0,none⟩) (by simp) _).setCell (p:=⟨w.heap.size,1,none⟩) (by simp) _
theorem Yqk (rb gb off len cap:Nat) (bad:Bool) (w:World) (hr:Ydm w rb (some ⟨gb,off,none⟩) len cap bad) (hn:13≤len) (hl:len≤cap) (hc:cap≤1000) (hrc:13<cap) (hg:gb≠rb) (hgl:gb<w.heap.size)
 (is:Bool) (s:ByteArray) (hs:s.size≤12) (hi:is=false→s.size=0) (hb:∀ j u,(Yb7 is s)[j]? = some u→w.cell? ⟨gb,off+j,none⟩=some u):
 Calls prog 198 #[.pointer (some ⟨rb,0,none⟩)] w fun e w'=>e=.returned (.agg #[.bool is,.string s])∧Ydm w' rb (some ⟨gb,off+13,none⟩) (len - 13) (cap - 13) bad∧(∀ k,k<w.heap.size→k≠rb→w'.heap[k]? = w.heap[k]?)∧Below 0 w w':=by
 have hrl:rb<w.heap.size:=Yaj hr
 have hr0:∀ o,Ydm (w.alloc o) rb (some ⟨gb,off,none⟩) len cap bad:=fun o=>(Below.heap_alloc w o rb hrl).trans hr
 have hb0:∀ o j u,(Yb7 is s)[j]? = some u→(w.alloc o).cell? ⟨gb,off+j,none⟩=some u:=fun o j u hu=>(World.cell?_of_block (Below.heap_alloc w o gb hgl)).trans (hb j u hu)
 have KN:=fun o=>Yhd rb gb off len cap 1 bad [(s.size:Int)+if is then 1 else 0] (w.alloc o) (hr0 o) (by omega) hl hc hg rfl (fun j b hj=>by
  match j,hj with
  | 0,hj=>
   simp only [List.getElem?_cons_zero,Option.some.injEq] at hj;subst hj;exact ⟨hb0 o 0 _ rfl,by split <;> omega,by split <;> omega⟩) (by omega)
 have HKN:=Yh KN
 have HB:=Yh hb0
 clear hr hb hr0 hb0 KN
 have e1:∀ x:Int,Ybk [x]=x:=by intro x;simp [Ybk]
 simp only [e1] at HKN
 clear e1
 have CH:Hid (∀ w1:World,Ydm w1 rb (some ⟨gb,off+1,none⟩) (len - 1) (cap - 1) bad→(∀ k,k≠rb→w1.heap[k]? = (w.alloc (.cells #[.bool false,.string ⟨#[]⟩] 38)).heap[k]?)→Calls prog 221 #[.pointer (some ⟨rb,0,none⟩),.int .i64 (s.size:Int),.int .i64 (12:Nat)] w1 fun e w'=>e=.returned (.string s)∧Yh2 w1 w' rb gb (off+1) (len - 1) (cap - 1) 12 bad):=by
  intro w1 hr1 ho1;refine Yqi rb gb (off+1) (len - 1) (cap - 1) s.size 12 bad w1 hr1 (by omega) (by omega) (by omega) (by omega) hg hs s rfl (fun j u hu=>?_);have hjl:j<s.size:=by have:=(List.getElem?_eq_some_iff.1 hu).1;rwa [Lib.strCells_length] at this
  have:=HB.out (.cells #[.bool false,.string ⟨#[]⟩] 38) (1+j) u (by simp only [Yb7];rw [List.getElem?_append_left (by simp [Lib.strCells_length];omega),List.getElem?_append_right (by simp)];simpa using hu);rw [World.cell?_of_block (ho1 gb hg),Nat.add_assoc];exact this
 cases is
 ·obtain rfl:=Ywo (hi rfl)
  clear hi;go_enter func198,ntmps198;go_wp2_with (first
   | (go_at_call 152;go_must (
    refine Calls.mono (HKN.out _) ?_;rintro e w1 ⟨rfl,ad,had,hr1,ho1,hz1,hb1⟩;obtain rfl:=had (by omega);have HC:=Yh (CH.out w1 hr1 ho1);have HF:=Yh (And.intro ho1 (And.intro hz1 hb1));clear hr1 ho1 hz1 hb1 had))
   | (go_at_call 221;go_must (
    refine Calls.mono HC.out ?_;rintro e w2 ⟨rfl,hrd⟩;have hk:w2.heap[w.heap.size]? = some (.cells #[.bool false,.string ⟨#[]⟩] 38):=((hrd.2.1 _ (by omega)).trans (HF.out.1 _ (by omega))).trans (heap_alloc_new w _);have f0:=Yah 0 hk;have f1:=Yah 1 hk;have g0:=Yaa (j:=0) hk rfl;have g1:=Yaa (j:=1) hk rfl;have HK:=Yh hk;have HRD:=Yh hrd;clear hk hrd HC)))
  exact Yqj w w1 w2 rb gb off len cap bad false ByteArray.empty hrl HF.out HRD.out HK.out _ rfl rfl
 ·clear hi
  go_enter func198,ntmps198;go_wp2_with (first
   | (go_at_call 152;go_must (
    refine Calls.mono (HKN.out _) ?_;rintro e w1 ⟨rfl,ad,had,hr1,ho1,hz1,hb1⟩;obtain rfl:=had (by omega);have HC:=Yh (CH.out w1 hr1 ho1);have HF:=Yh (And.intro ho1 (And.intro hz1 hb1));clear hr1 ho1 hz1 hb1 had))
   | (go_at_call 221;go_must (
    refine Calls.mono HC.out ?_;rintro e w2 ⟨rfl,hrd⟩;have hk:w2.heap[w.heap.size]? = some (.cells #[.bool false,.string ⟨#[]⟩] 38):=((hrd.2.1 _ (by omega)).trans (HF.out.1 _ (by omega))).trans (heap_alloc_new w _);have f0:=Yah 0 hk;have f1:=Yah 1 hk;have g0:=Yaa (j:=0) hk rfl;have g1:=Yaa (j:=1) hk rfl;have HK:=Yh hk;have HRD:=Yh hrd;clear hk hrd HC)))
  exact Yqj w w1 w2 rb gb off len cap bad true s hrl HF.out HRD.out HK.out _ rfl rfl
theorem Ye9 {pre x post:List Value} {j:Nat} {u:Value} (h:x[j]? = some u):(pre ++ x ++ post)[pre.length+j]? = some u:=by
 have hj:j<x.length:=(List.getElem?_eq_some_iff.1 h).1;rw [List.append_assoc,List.getElem?_append_right (by omega),List.getElem?_append_left (by omega)];simpa using h
theorem Ylc {gb off:Nat} {n:Int} {k:Nat} (h:∀ j u,(be n k)[j]? = some u→w.cell? ⟨gb,off+j,none⟩=some u):Yd8 w gb off (beI n k):=by
 intro j b hj;refine ⟨h j _ ?_,Yjy n k b (List.mem_of_getElem? hj)⟩;rw [←Ymy,List.getElem?_map,hj];rfl
structure Yql (w:World) (m:Nat) (e:Yac):Prop where
 kind:Yd8 w m 8 (beI e.kind 1)
 tx:Yd8 w m (8+1) (beI e.tx 1)
 prev:Yd8 w m (8+1+1) (beI e.prev 2)
 next:Yd8 w m (8+1+1+2) (beI e.next 2)
 key:∀ j u,(Ya2 e.key 8)[j]? = some u→w.cell? ⟨m,8+1+1+2+2+j,none⟩=some u
 old:∀ j u,(Yb7 e.oldIs e.old)[j]? = some u→w.cell? ⟨m,8+1+1+2+2+(1+8)+j,none⟩=some u
 new:∀ j u,(Yb7 e.newIs e.new)[j]? = some u→w.cell? ⟨m,8+1+1+2+2+(1+8)+13+j,none⟩=some u
theorem Ywp (a b:Int) (bl:List Value) {j:Nat} {u:Value} (h:bl[j]? = some u):(Yam a b bl)[8+j]? = some u:=by
 have:=Ye9 (pre:=be a 4 ++ be b 4) (x:=bl) (post:=List.replicate (48 - bl.length) (Value.int .u8 0) ++ (be a 4 ++ be b 4)) h;rw [List.length_append,Yeq,Yeq] at this;rw [Yam,List.append_assoc (be a 4 ++ be b 4 ++ bl)];exact this
theorem Ywq {m:Nat} {a b:Int} {e:Yac} (he:e.Fits) (h:w.heap[m]? = some (.cells (Yam a b e.body).toArray 98)):Yql w m e:=by
 have hc:∀ i u,e.body[i]? = some u→w.cell? ⟨m,8+i,none⟩=some u:=fun i u hu=>Yaa h (by simpa using Ywp a b e.body hu)
 have l1:=Yeq e.kind 1;have l2:=Yeq e.tx 1;have l3:=Yeq e.prev 2;have l4:=Yeq e.next 2;have l5:=Yk4 e.key 8 he.key;have l6:=Ymq e.oldIs e.old he.old;refine ⟨Ylc fun j u hu=>?_,Ylc fun j u hu=>?_,Ylc fun j u hu=>?_,Ylc fun j u hu=>?_,fun j u hu=>?_,fun j u hu=>?_,fun j u hu=>?_⟩
 ·exact hc j u (by
   have:=Ye9 (pre:=[]) (x:=be e.kind 1) (post:=be e.tx 1 ++ be e.prev 2 ++ be e.next 2 ++ Ya2 e.key 8 ++ Yb7 e.oldIs e.old ++ Yb7 e.newIs e.new) hu;simpa [Yac.body,List.append_assoc] using this)
 ·have:=hc (1+j) u (by
   have:=Ye9 (pre:=be e.kind 1) (x:=be e.tx 1) (post:=be e.prev 2 ++ be e.next 2 ++ Ya2 e.key 8 ++ Yb7 e.oldIs e.old ++ Yb7 e.newIs e.new) hu;rw [l1] at this;simpa [Yac.body,List.append_assoc] using this)
  rw [show 8+1+j=8+(1+j) by omega];exact this
 ·have:=hc (2+j) u (by
   have:=Ye9 (pre:=be e.kind 1 ++ be e.tx 1) (x:=be e.prev 2) (post:=be e.next 2 ++ Ya2 e.key 8 ++ Yb7 e.oldIs e.old ++ Yb7 e.newIs e.new) hu;rw [List.length_append,l1,l2] at this;simpa only [Yac.body,List.append_assoc] using this)
  rw [show 8+1+1+j=8+(2+j) by omega];exact this
 ·have:=hc (4+j) u (by
   have:=Ye9 (pre:=be e.kind 1 ++ be e.tx 1 ++ be e.prev 2) (x:=be e.next 2) (post:=Ya2 e.key 8 ++ Yb7 e.oldIs e.old ++ Yb7 e.newIs e.new) hu;rw [List.length_append,List.length_append,l1,l2,l3] at this;simpa only [Yac.body,List.append_assoc] using this)
  rw [show 8+1+1+2+j=8+(4+j) by omega];exact this
 ·have:=hc (6+j) u (by
   have:=Ye9 (pre:=be e.kind 1 ++ be e.tx 1 ++ be e.prev 2 ++ be e.next 2) (x:=Ya2 e.key 8) (post:=Yb7 e.oldIs e.old ++ Yb7 e.newIs e.new) hu;rw [List.length_append,List.length_append,List.length_append,l1,l2,l3,l4] at this;simpa only [Yac.body,List.append_assoc] using this)
  rw [show 8+1+1+2+2+j=8+(6+j) by omega];exact this
 ·have:=hc (15+j) u (by
   have:=Ye9 (pre:=be e.kind 1 ++ be e.tx 1 ++ be e.prev 2 ++ be e.next 2 ++ Ya2 e.key 8) (x:=Yb7 e.oldIs e.old) (post:=Yb7 e.newIs e.new) hu;rw [List.length_append,List.length_append,List.length_append,List.length_append,l1,l2,l3,l4,l5] at this;simpa only [Yac.body,List.append_assoc] using this)
  rw [show 8+1+1+2+2+(1+8)+j=8+(15+j) by omega];exact this
 ·have:=hc (28+j) u (by
   have:=Ye9 (pre:=be e.kind 1 ++ be e.tx 1 ++ be e.prev 2 ++ be e.next 2 ++ Ya2 e.key 8 ++ Yb7 e.oldIs e.old) (x:=Yb7 e.newIs e.new) (post:=[]) hu;rw [List.length_append,List.length_append,List.length_append,List.length_append,List.length_append,l1,l2,l3,l4,l5,l6,List.append_nil] at this;simpa only [Yac.body,List.append_assoc] using this)
  rw [show 8+1+1+2+2+(1+8)+13+j=8+(28+j) by omega];exact this
def Ycm (u:Value):Prop:=∃ x:Int,u=.int .u8 x∧0≤x∧x<256
theorem Ygo (n:Int) (k:Nat):∀ u∈be n k,Ycm u:=by
 induction k with
 | zero=>simp [be]
 | succ k ih=>
  intro u hu;simp only [be,List.mem_cons] at hu;rcases hu with rfl | hu
  ·exact ⟨_,rfl,by omega,by omega⟩
  ·exact ih u hu
theorem Yqm (s:ByteArray):∀ u∈Lib.strCells s,Ycm u:=by
 intro u hu;simp only [Lib.strCells,List.mem_map] at hu;obtain ⟨b,_,rfl⟩:=hu;exact ⟨_,rfl,by omega,by have:=b.toNat_lt;omega⟩
theorem Yna (n:Nat):∀ u∈List.replicate n (Value.int .u8 0),Ycm u:=fun u hu=>by rw [List.eq_of_mem_replicate hu];exact ⟨0,rfl,by omega,by omega⟩
theorem Yj4 (s:ByteArray) (r:Nat) (hs:s.size<256):∀ u∈Ya2 s r,Ycm u:=by
 intro u hu;simp only [Ya2,List.mem_append,List.mem_singleton] at hu;rcases hu with (h | h) | h
 ·exact ⟨_,h,by omega,by omega⟩
 ·exact Yqm s u h
 ·exact Yna _ u h
theorem Yqn (is:Bool) (s:ByteArray) (hs:s.size<255):∀ u∈Yb7 is s,Ycm u:=by
 intro u hu;simp only [Yb7,List.mem_append,List.mem_singleton] at hu;rcases hu with (h | h) | h
 ·exact ⟨_,h,by split <;> omega,by split <;> omega⟩
 ·exact Yqm s u h
 ·exact Yna _ u h
theorem Yac.body_byte (e:Yac) (he:e.Fits):∀ u∈e.body,Ycm u:=by
 intro u hu;obtain ⟨_,_,_,_,hkey,hold,hnew⟩:=he;simp only [Yac.body,List.mem_append] at hu;rcases hu with (((((h | h) | h) | h) | h) | h) | h
 ·exact Ygo _ _ u h
 ·exact Ygo _ _ u h
 ·exact Ygo _ _ u h
 ·exact Ygo _ _ u h
 ·exact Yj4 _ _ (by omega) u h
 ·exact Yqn _ _ (by omega) u h
 ·exact Yqn _ _ (by omega) u h
theorem Yqo:∀ (bl:List Value),(∀ u∈bl,Ycm u)→∃ bi:List Int,u8s bi=bl∧∀ x∈bi,0≤x∧x<256
 | [],_=>⟨[],rfl,by simp⟩
 | u :: r,h=>by
  obtain ⟨x,rfl,h1,h2⟩:=h u (by simp);obtain ⟨bi,h3,h4⟩:=Yqo r (fun v hv=>h v (by simp [hv]));exact ⟨x :: bi,by rw [←h3];rfl,fun y hy=>(List.mem_cons.1 hy).elim (fun e=>by subst e;exact ⟨h1,h2⟩) (h4 y)⟩
def Yej (a b:Int) (bi:List Int):List Int:=(beI a 4 ++ beI b 4) ++ bi ++ List.replicate (48 - bi.length) 0 ++ (beI a 4 ++ beI b 4)
theorem Ywr (x y:List Int):u8s (x ++ y)=u8s x ++ u8s y:=by simp [u8s]
theorem Yws (a b:Int) (bi:List Int):u8s (Yej a b bi)=Yam a b (u8s bi):=by
 have h4:∀ n,u8s (beI n 4)=be n 4:=fun n=>Ymy n 4
 have hr:∀ n,u8s (List.replicate n 0)=List.replicate n (Value.int .u8 0):=fun n=>by simp [u8s]
 simp only [Yej,Yam,Ywr,h4,hr,Yj2]
theorem Yld (pre x post:List Int) (n:Nat) (hn:x.length=n):((pre ++ x ++ post).drop pre.length).take n=x:=by
 rw [List.append_assoc,List.drop_left,←hn,List.take_left]
theorem Ywt (a b:Int) (bi:List Int) (ha:0≤a) (ha':a<4294967296) (hb:0≤b) (hb':b<4294967296) (hl:bi.length≤48) (hr:∀ x∈bi,0≤x∧x<256):
 Sec (Yej a b bi)∧st1 (Yej a b bi)=a∧st2 (Yej a b bi)=b∧st3 (Yej a b bi)=a∧st4 (Yej a b bi)=b:=by
 have la:=Yio a 4
 have lb:=Yio b 4
 have ea:Ybk (beI a 4)=a:=Yip a 4 ha (by omega) (by simp;omega)
 have eb:Ybk (beI b 4)=b:=Yip b 4 hb (by omega) (by simp;omega)
 refine ⟨⟨?_,?_⟩,?_,?_,?_,?_⟩
 ·simp only [Yej,List.length_append,List.length_replicate,la,lb];omega
 ·intro x hx
  simp only [Yej,List.mem_append] at hx;rcases hx with (((h | h) | h) | h) | (h | h)
  ·exact Yjy _ _ x h
  ·exact Yjy _ _ x h
  ·exact hr x h
  ·rw [List.eq_of_mem_replicate h];omega
  ·exact Yjy _ _ x h
  ·exact Yjy _ _ x h
 ·unfold st1
  refine (congrArg Ybk ?_).trans ea;have:=Yld [] (beI a 4) (beI b 4 ++ bi ++ List.replicate (48 - bi.length) 0 ++ (beI a 4 ++ beI b 4)) 4 la;simpa only [Yej,List.nil_append,List.length_nil,List.drop_zero,List.append_assoc] using this
 ·unfold st2
  refine (congrArg Ybk ?_).trans eb;have:=Yld (beI a 4) (beI b 4) (bi ++ List.replicate (48 - bi.length) 0 ++ (beI a 4 ++ beI b 4)) 4 lb;rw [la] at this;simpa only [Yej,List.append_assoc] using this
 ·unfold st3
  refine (congrArg Ybk ?_).trans ea;have:=Yld (beI a 4 ++ beI b 4 ++ bi ++ List.replicate (48 - bi.length) 0) (beI a 4) (beI b 4) 4 la;have hq:(beI a 4 ++ beI b 4 ++ bi ++ List.replicate (48 - bi.length) 0).length=56:=by simp only [List.length_append,List.length_replicate,la,lb];omega
  rw [hq] at this;simpa only [Yej,List.append_assoc] using this
 ·unfold st4
  refine (congrArg Ybk ?_).trans eb;have:=Yld (beI a 4 ++ beI b 4 ++ bi ++ List.replicate (48 - bi.length) 0 ++ beI a 4) (beI b 4) [] 4 lb;have hq:(beI a 4 ++ beI b 4 ++ bi ++ List.replicate (48 - bi.length) 0 ++ beI a 4).length=60:=by simp only [List.length_append,List.length_replicate,la,lb];omega
  rw [hq] at this;simpa only [Yej,List.append_assoc,List.append_nil] using this
theorem Yqp (a b:Int) (bl:List Value) (w:World) (ha:0≤a) (ha':a<4294967295) (hb:0≤b) (hb':b<4294967296) (hl:bl.length≤48) (h1:∀ u∈bl,Ycm u):
 Calls prog 151 #[.agg (Yam a b bl).toArray] w fun e w'=>e=.returned (.tuple #[.agg #[.int .u32 a,.int .u32 b],.slice (some ⟨w.heap.size,8,none⟩) 48 56,.bool true]) ∧
  w'.heap[w.heap.size]? = some (.cells (Yam a b bl).toArray 98)∧Below w.heap.size w w':=by
 obtain ⟨bi,rfl,hr⟩:=Yqo bl h1
 rw [Yj2] at hl
 obtain ⟨h0,e1,e2,e3,e4⟩:=Ywt a b bi ha (by omega) hb hb' hl hr
 refine (Ywn (Yej a b bi) h0 w false false (by rw [e1,e2,e3,e4];simp) (by rw [e1,e2];simp;omega)).mono ?_ |> fun h=>by rw [←Yws];exact h
 rintro e w' ⟨hB,hok,_⟩
 obtain ⟨h2,h3⟩:=hok ⟨rfl,rfl⟩
 rw [e1,e2] at h2
 exact ⟨h2,h3,hB⟩
end Go.Proofs.YtihbngfbcnojcaaGreat
