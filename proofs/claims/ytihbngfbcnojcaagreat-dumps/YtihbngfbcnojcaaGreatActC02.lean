import Derived.Test.YtihbngfbcnojcaaGreatActC01
import Derived.Deep.RegionHeld3
import Derived.Deep.RegionLaw
import Derived.Deep.MidRow
import Derived.Deep.AppendLies
set_option maxRecDepth 100000
set_option maxHeartbeats 8000000
namespace Go.Proofs.YtihbngfbcnojcaaGreat
open Go.RowKit Tryz
variable {w:World}
theorem Yml:∀ (S:List Value) (C:Array Value) (off i:Nat),off+i+S.length≤C.size →
 ((S.zipIdx i).foldl (fun cs (c,j)=>cs.setIfInBounds (off+j) c) C).toList=C.toList.take (off+i) ++ S ++ C.toList.drop (off+i+S.length)
 | [],C,off,i,_=>by simp
 | v :: S,C,off,i,h=>by
  simp only [List.zipIdx_cons,List.foldl_cons];rw [Yml S _ off (i+1) (by simp at h ⊢;omega)];simp only [Array.toList_setIfInBounds,List.length_cons] at h ⊢;have hl:off+i<C.toList.length:=by simp;omega
  rw [show off+(i+1)=off+i+1 by omega,List.take_succ_eq_append_getElem (by simpa using hl)];simp only [List.getElem_set_self,List.take_set_of_le (Nat.le_refl _),List.append_assoc,List.cons_append,List.nil_append];rw [List.drop_set_of_lt (by omega),show off+i+1+S.length=off+i+(S.length+1) by omega]
theorem Ymm:Tryz.zeroCells143=(Value.int .i64 0 :: List.replicate 64 (Value.int .u8 0)).toArray:=by kernel_rfl
theorem Yva (a:Int) (S:List Value) (hS:S.length=64):List.foldl (fun (cs:Array Value) (x:Value×Nat)=>cs.setIfInBounds (1+x.snd) x.fst) (Tryz.zeroCells143.setIfInBounds 0 (.int .i64 a)) S.zipIdx=(Value.int .i64 a :: S).toArray:=by
 rw [Ymm];refine Array.ext' (Eq.trans (Yml S ((Value.int .i64 a :: List.replicate 64 (Value.int .u8 0)).toArray) 1 0 (by simp [hS])) ?_);rw [hS];show [Value.int .i64 a] ++ S ++ []=_;simp
theorem Yvb (S:List Value) (hS:S.length=64) (Z:Array Value) (hZ:Z.size=65):List.foldl (fun (cs:Array Value) (x:Value×Nat)=>cs.setIfInBounds x.snd x.fst) Z (S.zipIdx 1)=(Z.toList.take 1 ++ S).toArray:=by
 have h:=Yml S Z 0 1 (by omega);have e1:List.foldl (fun (cs:Array Value) (x:Value×Nat)=>cs.setIfInBounds x.snd x.fst) Z (S.zipIdx 1)=List.foldl (fun (cs:Array Value) (x:Value×Nat)=>cs.setIfInBounds (0+x.snd) x.fst) Z (S.zipIdx 1):=by simp
 rw [e1];refine Array.ext' (Eq.trans h ?_);rw [List.drop_eq_nil_of_le (by simp;omega)];simp
theorem Ymn {b o:Nat} {v:Value} (h:w.cell? ⟨b,o,none⟩=some v) (hb:b<w.heap.size) (O:Obj):(w.alloc O).drew.cell? ⟨b,o,none⟩=some v:=
 (((Below.refl w.heap.size w).alloc (Nat.le_refl _) O).cell hb).trans h
theorem Yvc:(prog.info? 143).map (fun i=>(i.zero,i.size,i.bytes))=some (some (.agg (Value.int .i64 0 :: List.replicate 64 (Value.int .u8 0)).toArray),65,72):=by kernel_rfl
theorem Yio {P:Program} {ops:Array Oper} {o:Oper} {a:Act} {K:Act→World→Prop} {Q:Exit→Act→World→Prop} {E:Prop} (hgd:o.guard=none) (ty:TypeId) (x:Operand) (ho:o.op=.load ty x)
 (b off:Nat) (hx:a.eval x=.pointer (some ⟨b,off,none⟩)) (cs:List Value) (d:TypeDesc) (hc:w.rangeAt b off cs)
 (hu:P.underlying ty=some d) (hd:d.isRow=true) (hi:(P.info? ty).map (·.size)=some cs.length) (h:K (a.put o.dst (.agg cs.toArray)) w):
 if Region.wanted o (yielded ops a.tmps)=true then Oper.wp P o a w K Q else E:=by
 have hw:Region.wanted o (yielded ops a.tmps)=true:=by simp [Region.wanted,hgd]
 rw [if_pos hw]
 exact wp_load_mid ty x ho b off hx cs d hc hu hd hi h
def Yjv (db base n:Nat) (v:Value) (xs:List Value) (a:Int) (S:List Value) (D:Array Value) (w w':World):Prop:=
 ∃ g cap,w'.ownsRow base 143 65 (.slice (some ⟨g,0,none⟩) (n+1) cap) (n+1) (xs ++ (Value.int .i64 a :: S))∧w'.heap[db]? = some (.cells (D.setIfInBounds 27776 (.slice (some ⟨g,0,none⟩) (n+1) cap)) 103 (0,0)) ∧
  (∀ k,k<w.heap.size→k≠db→v.ownBlock≠some k→w'.heap[k]? = w.heap[k]?)∧(v.ownBlock=some g∨w.heap.size≤g)∧Below 0 w w'
theorem Ymo (db base n:Nat) (v:Value) (xs:List Value) (a:Int) (S:List Value) (D:Array Value) (w w0 w1:World) (g cap:Nat) (hdb:db<base) (hdw:db<w.heap.size) (hB0:∀ k,k<w.heap.size→k≠db→w0.heap[k]? = w.heap[k]?) (hBz:Below 0 w w0) (hs0:w0.heap.size=w.heap.size+1) (hD:w0.heap[db]? = some (.cells D 103 (0,0))) (hne1:some db≠v.ownBlock)
 (o:Obj) (hown1:w1.ownsRow base 143 65 (.slice (some ⟨g,0,none⟩) (n+1) cap) (n+1) (xs ++ (Value.int .i64 a :: S))) (hgrow:(w0.alloc o).drew.grownBy w1 v.ownBlock) (hat:v.ownBlock=some g∨g=w0.heap.size+1):
 Yjv db base n v xs a S D w (w1.setCell ⟨db,27776,none⟩ (.slice (some ⟨g,0,none⟩) (n+1) cap)):=by
 have hk0:∀ k,k<w.heap.size→some k≠v.ownBlock→w1.heap[k]? = w0.heap[k]?:=fun k hk hne=>by
  rw [hgrow.block k (by simp;omega) hne];exact Below.heap_alloc w0 o k (by omega)
 have hd1:w1.heap[db]? = some (.cells D 103 (0,0)):=(hk0 db hdw hne1).trans hD
 refine ⟨g,cap,ownsRow_setCell_below hown1 hdb _,Yak w1 db 27776 _ D 103 hd1,fun k h1 h2 h3=>?_,hat.imp id (fun h=>by omega),?_⟩
 ·rw [Below.heap_setCell _ _ _ _ h2]
  exact (hk0 k h1 (fun e=>h3 e.symm)).trans (hB0 k h1 h2)
 ·have hsz:=hgrow.size
  have e1:(w0.alloc o).drew.heap.size=w0.heap.size+1:=by simp
  have hB1:Below 0 w w1:=⟨by rw [hgrow.os];exact hBz.os,by rw [hgrow.tape];exact hBz.tape,by rw [hgrow.output];exact hBz.output,by omega,fun k hk=>by omega⟩;exact hB1.setCell (p:=⟨db,27776,none⟩) (by simp) _
theorem Ympd (D:Array Value) (i:Nat) (v:Value) (h:D[i]? = some v):D.setIfInBounds i v=D:=by
 apply Array.ext_getElem?;intro j;rw [Array.getElem?_setIfInBounds];split
 ·rename_i e;subst e
  rw [h];have:i<D.size:=(Array.getElem?_eq_some_iff.1 h).1;simp [this]
 ·rfl
theorem Ymq (db base n:Nat) (v:Value) (xs:List Value) (a:Int) (S:List Value) (D:Array Value) (w:World) (hS:S.length=64) (h1:∀ u∈S,u.oneCell'=true) (hdb:db<base) (hb:base≤w.heap.size)
 (hown:w.ownsRow base 143 65 v n xs) (hn:n≤100000) (hD:w.heap[db]? = some (.cells D 103 (0,0))) (hDv:D[27776]? = some v) (hDf:D[27777]? = some (.int .i64 0)):
 Calls prog 119 #[.pointer (some ⟨db,0,none⟩),.int .i64 a,.agg S.toArray] w fun e w'=>e=.returned (.tuple #[])∧Yjv db base n v xs a S D w w':=by
 have hc:w.cell? ⟨db,27776,none⟩=some v:=Yaa hD hDv
 have hf:=Yah 27776 hD
 have hdw:db<w.heap.size:=by omega
 have hX:∀ O w0,(w.setCell ⟨db,27777,none⟩ (.int .i64 0)).alloc O=w0→w0.heap[db]? = some (.cells D 103 (0,0))∧(∀ k,k<w.heap.size→k≠db→w0.heap[k]? = w.heap[k]?)∧Below 0 w w0∧w0.heap.size=w.heap.size+1:=by
  rintro O w0 rfl;refine ⟨?_,fun k h1 h2=>?_,((Below.refl _ _).setCell (p:=⟨db,27777,none⟩) (by simp) _).alloc (by simp) _,by simp⟩
  ·rw [Below.heap_alloc _ O db (by simpa using hdw),Yak _ db 27777 _ D 103 hD,Ympd D 27777 _ hDf]
  ·rw [Below.heap_alloc _ O k (by simpa using h1),Below.heap_setCell _ _ _ _ h2]
 have HX0:=Yh hX
 have cf:∀ O,(w.alloc O).cell? ⟨db,27777,none⟩=some (.int .i64 0):=fun O=>by rw [((Below.refl _ w).alloc (Nat.le_refl _) O).cell hdw];exact Yaa hD hDf
 have ff:∀ O,(w.alloc O).frozen? ⟨db,27777,none⟩=false:=fun O=>by rw [((Below.refl _ w).alloc (Nat.le_refl _) O).frozen hdw];exact Yah 27777 hD
 clear hX
 have HD:=Yh hD
 have HDv:=Yh hDv
 clear hD hDv hDf
 obtain ⟨i0,hi,hz0,hz1,hz2⟩:=info_parts Yvc
 obtain ⟨ad,cap,rfl⟩:=Yjt hown
 have hu:=underlying98
 have hi9:(prog.info? 98).map (·.size)=some S.length:=by rw [hS];kernel_rfl
 have hC:(Value.int .i64 a :: S).length=65:=by simp [hS]
 have k1:=Yva a S hS
 have k2:=Yvb S hS
 have HO:=Yh hown
 have hne1:some db≠(Value.slice ad n cap).ownBlock:=fun e=>by have:=(hown.lt _ e.symm).1;omega
 have hne2:some w.heap.size≠(Value.slice ad n cap).ownBlock:=fun e=>by have:=(hown.lt _ e.symm).2;omega
 have hC1:∀ u∈Value.int .i64 a :: S,u.oneCell'=true:=fun u hu=>(List.mem_cons.1 hu).elim (fun h=>by rw [h];rfl) (fun h=>h1 u h)
 have HC1:=Yh hC1
 clear hC1
 clear hown
 go_enter func119,ntmps119
 go_wp2
 have hr:((w.setCell ⟨db,27777,none⟩ (.int .i64 0)).alloc (.cells S.toArray 98)).rangeAt w.heap.size 0 S:=fun j u hu=>by
  have hnew:=heap_alloc_new (w.setCell ⟨db,27777,none⟩ (.int .i64 0)) (.cells S.toArray 98);rw [World.size_setCell] at hnew;rw [Nat.zero_add];exact Yaa hnew (by simpa using hu)
 obtain ⟨hd0,hB0,hbz,hs0⟩:=HX0.out (.cells S.toArray 98) _ rfl
 have hO0:((w.setCell ⟨db,27777,none⟩ (.int .i64 0)).alloc (.cells S.toArray 98)).ownsRow base 143 65 (.slice ad n cap) n xs:=World.ownsRow.alloc (ownsRow_setCell_below HO.out hdb _) _
 revert hr hB0 hd0 hbz hs0 hO0
 generalize (w.setCell ⟨db,27777,none⟩ (.int .i64 0)).alloc (.cells S.toArray 98)=w0
 intro hr hd0 hB0 hbz hs0 hO0
 have hc0:w0.cell? ⟨db,27776,none⟩=some (.slice ad n cap):=Yaa hd0 HDv.out
 have hf0:w0.frozen? ⟨db,27776,none⟩=false:=Yah 27776 hd0
 have HB0:=Yh hB0
 have HBZ:=Yh hbz
 have HD0:=Yh hd0
 have HO0:=Yh hO0
 have HS0:=Yh hs0
 have hdw0:db<w0.heap.size:=by omega
 have hnw0:w.heap.size<w0.heap.size:=by omega
 clear hB0 hd0 hbz hO0 hs0 hc hf HO cf ff HX0
 refine wp_region_any (by kernel_rfl) ?_
 change wpAny _ _ _ _ _ _ _ w0.drew
 refine wpAny_take (i:=0) (v:=(Value.pointer (some ⟨db,0,none⟩))) rfl (by kernel_rfl) (by kernel_rfl) (by kernel_rfl) (fun _ _ _ h=>h) (Or.inl ⟨by rfl,?_⟩) ?_
 ·intro wz;go_simp
 refine wpAny_take (i:=1) (v:=(Value.pointer (some ⟨db,0,none⟩))) rfl (by kernel_rfl) (by kernel_rfl) (by kernel_rfl) (fun _ _ _ h=>h) (Or.inl ⟨by rfl,?_⟩) ?_
 ·intro wz;go_simp
 refine wpAny_take (i:=2) (v:=(Value.pointer (some ⟨db,0,none⟩))) rfl (by kernel_rfl) (by kernel_rfl) (by kernel_rfl) (fun _ _ _ h=>h) (Or.inl ⟨by rfl,?_⟩) ?_
 ·intro wz;go_simp
 refine wpAny_take (i:=3) (v:=(Value.pointer (some ⟨db,27776,none⟩))) rfl (by kernel_rfl) (by kernel_rfl) (by kernel_rfl) (fun _ _ _ h=>h) (Or.inl ⟨by rfl,?_⟩) ?_
 ·intro wz;go_simp
 refine wpAny_take (i:=5) (v:=(Value.int .i64 a)) rfl (by kernel_rfl) (by kernel_rfl) (by kernel_rfl) (fun _ _ _ h=>h) (Or.inl ⟨by rfl,?_⟩) ?_
 ·intro wz;go_simp
 refine wpAny_ready (rs:=[4,6]) (by kernel_rfl) (by simp) ?_
 refine AllReady.cons rfl (fun K hK=>?_) (AllReady.cons rfl (fun K hK=>?_) AllReady.nil)
 ·go_simp
  refine hK _ _ ?_;clear hK K;refine wpAny_ready (rs:=[6]) (by kernel_rfl) (by simp) ?_;refine AllReady.cons rfl (fun K hK=>?_) AllReady.nil;refine Yio rfl 98 (.tmp 5) rfl w.heap.size 0 (by rfl) S _ hr underlying98 rfl hi9 ?_;refine hK _ _ ?_;clear hK K;refine wpAny_take (i:=7) (v:=(Value.agg (Value.int .i64 a :: S).toArray)) rfl (by kernel_rfl) (by kernel_rfl) (by kernel_rfl) (fun _ _ _ h=>h) (Or.inl ⟨by rfl,?_⟩) ?_
  ·intro wz;go_simp
  refine wpAny_ready (rs:=[8]) (by kernel_rfl) (by simp) ?_;refine AllReady.cons rfl (fun K hK=>?_) AllReady.nil;go_simp;refine hK _ _ ?_;clear hK K;refine wpAny_ready (rs:=[9]) (by kernel_rfl) (by simp) ?_;refine AllReady.cons rfl (fun K hK=>?_) AllReady.nil;refine step_append_lies _ rfl (.tmp 35) (.tmp 39) 100 (by rfl) base 143 i0 _ 65 72 underlying100 hi hz0 hz1 hz2 rfl (by omega) (.slice ad n cap) n xs (by rfl) (HO0.out.alloc _) ⟨w0.heap.size,0,none⟩ 1 1 (Value.int .i64 a :: S) (by rfl) hC (fun j u hu=>(by rw [Yil];exact Yaa (heap_alloc_new w0 _) (by simpa using hu))) HC1.out (by omega) (by unfold maxLen;omega) (by omega) (by have:=HS0.out;simp;omega) (w0.heap.size+1) (by simp) ?_;intro g cap1 w1 hown1 hgrow hat hlt;refine hK _ _ ?_;clear hK K;have c1:w1.cell? ⟨db,27776,none⟩=some (.slice ad n cap):=hgrow.cell (Ymn hc0 hdw0 _) hne1;have f1:w1.frozen? ⟨db,27776,none⟩=false:=(World.frozen?_of_block (hgrow.block db (by simp;omega) hne1)).trans (((Below.refl _ w0).alloc (Nat.le_refl _) _).frozen hdw0 |>.trans hf0);have HW:Hid (Yjv db base n (.slice ad n cap) xs a S D w (w1.setCell ⟨db,27776,none⟩ (.slice (some ⟨g,0,none⟩) (n+1) cap1))):=Ymo db base n _ xs a S D w w0 w1 g cap1 hdb hdw HB0.out HBZ.out HS0.out HD0.out hne1 _ hown1 hgrow hat;clear hown1 hgrow hat hlt;refine wpAny_take (i:=10) (v:=(Value.pointer (some ⟨db,0,none⟩))) rfl (by kernel_rfl) (by kernel_rfl) (by kernel_rfl) (fun _ _ _ h=>h) (Or.inl ⟨by rfl,?_⟩) ?_
  ·intro wz;go_simp
  refine wpAny_take (i:=11) (v:=(Value.pointer (some ⟨db,27776,none⟩))) rfl (by kernel_rfl) (by kernel_rfl) (by kernel_rfl) (fun _ _ _ h=>h) (Or.inl ⟨by rfl,?_⟩) ?_
  ·intro wz;go_simp
  refine wpAny_ready (rs:=[12]) (by kernel_rfl) (by simp) ?_;refine AllReady.cons rfl (fun K hK=>?_) AllReady.nil;go_simp;refine hK _ _ ?_;clear hK K;refine wpAny_done (by kernel_rfl) ?_ _;go_wp2;go_end0;exact ⟨rfl,HW.out⟩
 ·refine Yio rfl 98 (.tmp 5) rfl w.heap.size 0 (by rfl) S _ hr underlying98 rfl hi9 ?_
  refine hK _ _ ?_;clear hK K;refine wpAny_take (i:=7) (v:=(Value.agg (Value.int .i64 a :: S).toArray)) rfl (by kernel_rfl) (by kernel_rfl) (by kernel_rfl) (fun _ _ _ h=>h) (Or.inl ⟨by rfl,?_⟩) ?_
  ·intro wz;go_simp
  refine wpAny_ready (rs:=[4,8]) (by kernel_rfl) (by simp) ?_;refine AllReady.cons rfl (fun K hK=>?_) (AllReady.cons rfl (fun K hK=>?_) AllReady.nil)
  ·go_simp
   refine hK _ _ ?_;clear hK K;refine wpAny_ready (rs:=[8]) (by kernel_rfl) (by simp) ?_;refine AllReady.cons rfl (fun K hK=>?_) AllReady.nil;go_simp;refine hK _ _ ?_;clear hK K;refine wpAny_ready (rs:=[9]) (by kernel_rfl) (by simp) ?_;refine AllReady.cons rfl (fun K hK=>?_) AllReady.nil;refine step_append_lies _ rfl (.tmp 35) (.tmp 39) 100 (by rfl) base 143 i0 _ 65 72 underlying100 hi hz0 hz1 hz2 rfl (by omega) (.slice ad n cap) n xs (by rfl) (HO0.out.alloc _) ⟨w0.heap.size,0,none⟩ 1 1 (Value.int .i64 a :: S) (by rfl) hC (fun j u hu=>(by rw [Yil];exact Yaa (heap_alloc_new w0 _) (by simpa using hu))) HC1.out (by omega) (by unfold maxLen;omega) (by omega) (by have:=HS0.out;simp;omega) (w0.heap.size+1) (by simp) ?_;intro g cap1 w1 hown1 hgrow hat hlt;refine hK _ _ ?_;clear hK K;have c1:w1.cell? ⟨db,27776,none⟩=some (.slice ad n cap):=hgrow.cell (Ymn hc0 hdw0 _) hne1;have f1:w1.frozen? ⟨db,27776,none⟩=false:=(World.frozen?_of_block (hgrow.block db (by simp;omega) hne1)).trans (((Below.refl _ w0).alloc (Nat.le_refl _) _).frozen hdw0 |>.trans hf0);have HW:Hid (Yjv db base n (.slice ad n cap) xs a S D w (w1.setCell ⟨db,27776,none⟩ (.slice (some ⟨g,0,none⟩) (n+1) cap1))):=Ymo db base n _ xs a S D w w0 w1 g cap1 hdb hdw HB0.out HBZ.out HS0.out HD0.out hne1 _ hown1 hgrow hat;clear hown1 hgrow hat hlt;refine wpAny_take (i:=10) (v:=(Value.pointer (some ⟨db,0,none⟩))) rfl (by kernel_rfl) (by kernel_rfl) (by kernel_rfl) (fun _ _ _ h=>h) (Or.inl ⟨by rfl,?_⟩) ?_
   ·intro wz;go_simp
   refine wpAny_take (i:=11) (v:=(Value.pointer (some ⟨db,27776,none⟩))) rfl (by kernel_rfl) (by kernel_rfl) (by kernel_rfl) (fun _ _ _ h=>h) (Or.inl ⟨by rfl,?_⟩) ?_
   ·intro wz;go_simp
   refine wpAny_ready (rs:=[12]) (by kernel_rfl) (by simp) ?_;refine AllReady.cons rfl (fun K hK=>?_) AllReady.nil;go_simp;refine hK _ _ ?_;clear hK K;refine wpAny_done (by kernel_rfl) ?_ _;go_wp2;go_end0;exact ⟨rfl,HW.out⟩
  ·go_simp
   refine hK _ _ ?_;clear hK K;refine wpAny_ready (rs:=[4]) (by kernel_rfl) (by simp) ?_;refine AllReady.cons rfl (fun K hK=>?_) AllReady.nil;go_simp;refine hK _ _ ?_;clear hK K;refine wpAny_ready (rs:=[9]) (by kernel_rfl) (by simp) ?_;refine AllReady.cons rfl (fun K hK=>?_) AllReady.nil;refine step_append_lies _ rfl (.tmp 35) (.tmp 39) 100 (by rfl) base 143 i0 _ 65 72 underlying100 hi hz0 hz1 hz2 rfl (by omega) (.slice ad n cap) n xs (by rfl) (HO0.out.alloc _) ⟨w0.heap.size,0,none⟩ 1 1 (Value.int .i64 a :: S) (by rfl) hC (fun j u hu=>(by rw [Yil];exact Yaa (heap_alloc_new w0 _) (by simpa using hu))) HC1.out (by omega) (by unfold maxLen;omega) (by omega) (by have:=HS0.out;simp;omega) (w0.heap.size+1) (by simp) ?_;intro g cap1 w1 hown1 hgrow hat hlt;refine hK _ _ ?_;clear hK K;have c1:w1.cell? ⟨db,27776,none⟩=some (.slice ad n cap):=hgrow.cell (Ymn hc0 hdw0 _) hne1;have f1:w1.frozen? ⟨db,27776,none⟩=false:=(World.frozen?_of_block (hgrow.block db (by simp;omega) hne1)).trans (((Below.refl _ w0).alloc (Nat.le_refl _) _).frozen hdw0 |>.trans hf0);have HW:Hid (Yjv db base n (.slice ad n cap) xs a S D w (w1.setCell ⟨db,27776,none⟩ (.slice (some ⟨g,0,none⟩) (n+1) cap1))):=Ymo db base n _ xs a S D w w0 w1 g cap1 hdb hdw HB0.out HBZ.out HS0.out HD0.out hne1 _ hown1 hgrow hat;clear hown1 hgrow hat hlt;refine wpAny_take (i:=10) (v:=(Value.pointer (some ⟨db,0,none⟩))) rfl (by kernel_rfl) (by kernel_rfl) (by kernel_rfl) (fun _ _ _ h=>h) (Or.inl ⟨by rfl,?_⟩) ?_
   ·intro wz;go_simp
   refine wpAny_take (i:=11) (v:=(Value.pointer (some ⟨db,27776,none⟩))) rfl (by kernel_rfl) (by kernel_rfl) (by kernel_rfl) (fun _ _ _ h=>h) (Or.inl ⟨by rfl,?_⟩) ?_
   ·intro wz;go_simp
   refine wpAny_ready (rs:=[12]) (by kernel_rfl) (by simp) ?_;refine AllReady.cons rfl (fun K hK=>?_) AllReady.nil;go_simp;refine hK _ _ ?_;clear hK K;refine wpAny_done (by kernel_rfl) ?_ _;go_wp2;go_end0;exact ⟨rfl,HW.out⟩
end Go.Proofs.YtihbngfbcnojcaaGreat
