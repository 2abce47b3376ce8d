import Derived.Test.YtihbngfbcnojcaaGreatActC14
import Derived.Maps.AppendAt
import Derived.Deep.CutRange
set_option maxRecDepth 100000
set_option maxHeartbeats 8000000
namespace Go.Proofs.YtihbngfbcnojcaaGreat
open Go.RowKit Tryz
variable {a c:Int} {B j k:Nat} {o1:Obj} {w w2 w3 wr:World} {e:Yac}
theorem Yjg (h:w.heap[k]? = some (.cells #[.int .u32 0,.int .u32 0] 168 (0,0))):w.cell? ⟨k,0,none⟩=some (.int .u32 0)∧w.cell? ⟨k,1,none⟩=some (.int .u32 0)∧w.frozen? ⟨k,0,none⟩=false∧w.frozen? ⟨k,1,none⟩=false∧k≠w.heap.size∧w.heap.size≠k∧k<w.heap.size:=⟨Yaa (j:=0) h rfl,Yaa (j:=1) h rfl,Yah 0 h,Yah 1 h,(by have:=Yaj h;omega),(by have:=Yaj h;omega),Yaj h⟩
theorem Yjh (h:w.heap[k]? = some (.cells #[.int .i64 0,.int .i64 0,.int .i64 0,.int .i64 0,.string ByteArray.empty,.bool false,.string ByteArray.empty,.bool false,.string ByteArray.empty] 152 (0,0))):w.cell? ⟨k,0,none⟩=some (.int .i64 0)∧w.cell? ⟨k,1,none⟩=some (.int .i64 0)∧w.cell? ⟨k,2,none⟩=some (.int .i64 0)∧w.cell? ⟨k,3,none⟩=some (.int .i64 0)∧w.cell? ⟨k,4,none⟩=some (.string ByteArray.empty)∧w.cell? ⟨k,5,none⟩=some (.bool false)∧w.cell? ⟨k,6,none⟩=some (.string ByteArray.empty)∧w.cell? ⟨k,7,none⟩=some (.bool false)∧w.cell? ⟨k,8,none⟩=some (.string ByteArray.empty)∧w.frozen? ⟨k,0,none⟩=false∧w.frozen? ⟨k,1,none⟩=false∧w.frozen? ⟨k,2,none⟩=false∧w.frozen? ⟨k,3,none⟩=false∧w.frozen? ⟨k,4,none⟩=false∧w.frozen? ⟨k,5,none⟩=false∧w.frozen? ⟨k,6,none⟩=false∧w.frozen? ⟨k,7,none⟩=false∧w.frozen? ⟨k,8,none⟩=false∧k≠w.heap.size∧w.heap.size≠k∧k<w.heap.size:=⟨Yaa (j:=0) h rfl,Yaa (j:=1) h rfl,Yaa (j:=2) h rfl,Yaa (j:=3) h rfl,Yaa (j:=4) h rfl,Yaa (j:=5) h rfl,Yaa (j:=6) h rfl,Yaa (j:=7) h rfl,Yaa (j:=8) h rfl,Yah 0 h,Yah 1 h,Yah 2 h,Yah 3 h,Yah 4 h,Yah 5 h,Yah 6 h,Yah 7 h,Yah 8 h,(by have:=Yaj h;omega),(by have:=Yaj h;omega),Yaj h⟩
theorem Yof (h:Below B wr w2) (hB:B≤w2.heap.size) (hb:Below w2.heap.size w2 w3):Below B wr w3∧B≤w3.heap.size∧∀ (k:Nat) (o:Obj),w2.heap[k]? = some o→w3.heap[k]? = some o:=
 ⟨h.trans (hb.mono hB),by have:=hb.size;omega,fun k o hk=>(hb.block k (by have:=(Array.getElem?_eq_some_iff.1 hk).1;omega)).trans hk⟩
theorem Ykl (h:Below B wr w2) (hB:B≤w2.heap.size) (hb:Below (w2.alloc o1).heap.size (w2.alloc o1) w3):Below B wr w3∧B≤w3.heap.size∧(∀ (k:Nat) (o:Obj),w2.heap[k]? = some o→w3.heap[k]? = some o)∧w3.heap[w2.heap.size]? = some o1:=by
 obtain ⟨h1,h2,h3⟩:=Yof (h.alloc hB o1) (by simp;omega) hb;exact ⟨h1,h2,fun k o hk=>h3 k o ((Below.heap_alloc _ _ _ (by have:=(Array.getElem?_eq_some_iff.1 hk).1;omega)).trans hk),h3 _ _ (heap_alloc_new _ _)⟩
theorem Yl3 {o2:Obj} (h:Below B wr w2) (hB:B≤w2.heap.size) (hb:Below ((w2.alloc o1).alloc o2).heap.size ((w2.alloc o1).alloc o2) w3):Below B wr w3∧B≤w3.heap.size∧(∀ (k:Nat) (o:Obj),w2.heap[k]? = some o→w3.heap[k]? = some o)∧w3.heap[w2.heap.size]? = some o1∧w3.heap[w2.heap.size+1]? = some o2:=by
 obtain ⟨h1,h2,h3,h4⟩:=Ykl (h.alloc hB o1) (by simp;omega) hb;have e:(w2.alloc o1).heap.size=w2.heap.size+1:=by simp
 rw [e] at h4;exact ⟨h1,h2,fun k o hk=>h3 k o ((Below.heap_alloc _ _ _ (by have:=(Array.getElem?_eq_some_iff.1 hk).1;omega)).trans hk),h3 _ _ (heap_alloc_new _ _),h4⟩
theorem Ytl {ops:Array Oper} {rest:List Oper} {o:Oper} {ac:Act} {Q:Exit→Act→World→Prop} (hgd:o.guard=none) (s x:Operand)
 (ho:o.op=.call { callee:=.builtin .append,args:=#[s,x],argTypes:=#[69,69] }) (base:Nat) (v:Value) (l:List Yac) (n:Nat) (hn:n=l.length) (hs:ac.eval s=v) (hown:w.ownsRow base 152 9 v n (Ybf l))
 (g:Nat) (e:Yac) (hx:ac.eval x=.slice (some ⟨g,0,none⟩) 1 1) (hg:w.heap[g]? = some (.cells e.cells 152 (0,0))) (hlen:n≤1000000) (hbase:base≤w.heap.size)
 (h:∀ v' w',w'.ownsRow base 152 9 v' (n+1) (Ybf (l ++ [e]))→Below base w w'→wpList prog ops Q rest (ac.put o.dst v') w'):wpList prog ops Q (o :: rest) ac w:=by
 obtain ⟨i0,hi,hz0,hz1,hz2⟩:=info_parts Yk0
 refine wpList_append_own_at w hgd s x 69 ho base 152 i0 _ 9 96 underlying69 hi hz0 hz1 hz2 rfl (by decide) v n (Ybf l) hs hown ⟨g,0,none⟩ 1 1 e.cells.toList hx (by simp [Yac.cells]) (fun j u hu=>by rw [Ydg];exact Yaa hg (by simpa using hu)) (fun x hx=>by simp [Yac.cells] at hx;rcases hx with rfl | rfl | rfl | rfl | rfl | rfl | rfl | rfl | rfl <;> rfl) (by unfold maxLen;omega) (by omega) hbase ?_
 intro v' w' h1 h2 _ _
 refine h v' w' ?_ (Ym2 h2 hown (Nat.le_refl _) hbase)
 have e2:Ybf (l ++ [e])=Ybf l ++ e.cells.toList:=by simp [Ybf]
 rw [e2];exact h1
abbrev Yif (w:World) (k:Nat) (a c:Int):World:=(w.setCell ⟨k,0,none⟩ (.int .u32 a)).setCell ⟨k,1,none⟩ (.int .u32 c)
abbrev Yho (w:World) (k:Nat) (e:Yac):World:=((((((((w.setCell ⟨k,0,none⟩ (.int .i64 e.kind)).setCell ⟨k,1,none⟩ (.int .i64 e.tx)).setCell ⟨k,2,none⟩ (.int .i64 e.prev)).setCell ⟨k,3,none⟩ (.int .i64 e.next)).setCell ⟨k,4,none⟩ (.string e.key)).setCell ⟨k,5,none⟩ (.bool e.oldIs)).setCell ⟨k,6,none⟩ (.string e.old)).setCell ⟨k,7,none⟩ (.bool e.newIs)).setCell ⟨k,8,none⟩ (.string e.new)
def Fin (wr wx:World) (k7 k8:Nat) (a c:Int) (e:Yac):Prop:=wx.heap[k7]? = some (.cells #[.int .u32 a,.int .u32 c] 168 (0,0))∧wx.heap[k8]? = some (.cells #[.int .i64 e.kind,.int .i64 e.tx,.int .i64 e.prev,.int .i64 e.next,.string e.key,.bool e.oldIs,.string e.old,.bool e.newIs,.string e.new] 152 (0,0))∧Below wr.heap.size wr wx
theorem Ytm (h:w.heap[k]? = some (.cells #[.int .u32 0,.int .u32 0] 168 (0,0))):(Yif w k a c).heap[k]? = some (.cells #[.int .u32 a,.int .u32 c] 168 (0,0)):=Yak _ k 1 _ _ _ (Yak w k 0 _ _ _ h)
theorem Y1r (h:j≠k):(Yif w k a c).heap[j]? = w.heap[j]?:=(Below.heap_setCell _ _ _ _ h).trans (Below.heap_setCell _ _ _ _ h)
theorem Ytn (h:Below wr.heap.size wr w) (hk:wr.heap.size≤k):Below wr.heap.size wr (Yif w k a c):=(h.setCell (p:=⟨k,0,none⟩) hk _).setCell (p:=⟨k,1,none⟩) hk _
theorem Yog:(Yif w k a c).heap.size=w.heap.size:=by simp
theorem Yto (h:w.heap[k]? = some (.cells #[.int .i64 0,.int .i64 0,.int .i64 0,.int .i64 0,.string ByteArray.empty,.bool false,.string ByteArray.empty,.bool false,.string ByteArray.empty] 152 (0,0))):(Yho w k e).heap[k]? = some (.cells #[.int .i64 e.kind,.int .i64 e.tx,.int .i64 e.prev,.int .i64 e.next,.string e.key,.bool e.oldIs,.string e.old,.bool e.newIs,.string e.new] 152 (0,0)):=by
 have h0:(w.setCell ⟨k,0,none⟩ (.int .i64 e.kind)).heap[k]? = some (.cells #[.int .i64 e.kind,.int .i64 0,.int .i64 0,.int .i64 0,.string ByteArray.empty,.bool false,.string ByteArray.empty,.bool false,.string ByteArray.empty] 152 (0,0)):=Yak _ k 0 _ _ _ h;have h1:((w.setCell ⟨k,0,none⟩ (.int .i64 e.kind)).setCell ⟨k,1,none⟩ (.int .i64 e.tx)).heap[k]? = some (.cells #[.int .i64 e.kind,.int .i64 e.tx,.int .i64 0,.int .i64 0,.string ByteArray.empty,.bool false,.string ByteArray.empty,.bool false,.string ByteArray.empty] 152 (0,0)):=Yak _ k 1 _ _ _ h0;have h2:(((w.setCell ⟨k,0,none⟩ (.int .i64 e.kind)).setCell ⟨k,1,none⟩ (.int .i64 e.tx)).setCell ⟨k,2,none⟩ (.int .i64 e.prev)).heap[k]? = some (.cells #[.int .i64 e.kind,.int .i64 e.tx,.int .i64 e.prev,.int .i64 0,.string ByteArray.empty,.bool false,.string ByteArray.empty,.bool false,.string ByteArray.empty] 152 (0,0)):=Yak _ k 2 _ _ _ h1;have h3:((((w.setCell ⟨k,0,none⟩ (.int .i64 e.kind)).setCell ⟨k,1,none⟩ (.int .i64 e.tx)).setCell ⟨k,2,none⟩ (.int .i64 e.prev)).setCell ⟨k,3,none⟩ (.int .i64 e.next)).heap[k]? = some (.cells #[.int .i64 e.kind,.int .i64 e.tx,.int .i64 e.prev,.int .i64 e.next,.string ByteArray.empty,.bool false,.string ByteArray.empty,.bool false,.string ByteArray.empty] 152 (0,0)):=Yak _ k 3 _ _ _ h2;have h4:(((((w.setCell ⟨k,0,none⟩ (.int .i64 e.kind)).setCell ⟨k,1,none⟩ (.int .i64 e.tx)).setCell ⟨k,2,none⟩ (.int .i64 e.prev)).setCell ⟨k,3,none⟩ (.int .i64 e.next)).setCell ⟨k,4,none⟩ (.string e.key)).heap[k]? = some (.cells #[.int .i64 e.kind,.int .i64 e.tx,.int .i64 e.prev,.int .i64 e.next,.string e.key,.bool false,.string ByteArray.empty,.bool false,.string ByteArray.empty] 152 (0,0)):=Yak _ k 4 _ _ _ h3;have h5:((((((w.setCell ⟨k,0,none⟩ (.int .i64 e.kind)).setCell ⟨k,1,none⟩ (.int .i64 e.tx)).setCell ⟨k,2,none⟩ (.int .i64 e.prev)).setCell ⟨k,3,none⟩ (.int .i64 e.next)).setCell ⟨k,4,none⟩ (.string e.key)).setCell ⟨k,5,none⟩ (.bool e.oldIs)).heap[k]? = some (.cells #[.int .i64 e.kind,.int .i64 e.tx,.int .i64 e.prev,.int .i64 e.next,.string e.key,.bool e.oldIs,.string ByteArray.empty,.bool false,.string ByteArray.empty] 152 (0,0)):=Yak _ k 5 _ _ _ h4;have h6:(((((((w.setCell ⟨k,0,none⟩ (.int .i64 e.kind)).setCell ⟨k,1,none⟩ (.int .i64 e.tx)).setCell ⟨k,2,none⟩ (.int .i64 e.prev)).setCell ⟨k,3,none⟩ (.int .i64 e.next)).setCell ⟨k,4,none⟩ (.string e.key)).setCell ⟨k,5,none⟩ (.bool e.oldIs)).setCell ⟨k,6,none⟩ (.string e.old)).heap[k]? = some (.cells #[.int .i64 e.kind,.int .i64 e.tx,.int .i64 e.prev,.int .i64 e.next,.string e.key,.bool e.oldIs,.string e.old,.bool false,.string ByteArray.empty] 152 (0,0)):=Yak _ k 6 _ _ _ h5;have h7:((((((((w.setCell ⟨k,0,none⟩ (.int .i64 e.kind)).setCell ⟨k,1,none⟩ (.int .i64 e.tx)).setCell ⟨k,2,none⟩ (.int .i64 e.prev)).setCell ⟨k,3,none⟩ (.int .i64 e.next)).setCell ⟨k,4,none⟩ (.string e.key)).setCell ⟨k,5,none⟩ (.bool e.oldIs)).setCell ⟨k,6,none⟩ (.string e.old)).setCell ⟨k,7,none⟩ (.bool e.newIs)).heap[k]? = some (.cells #[.int .i64 e.kind,.int .i64 e.tx,.int .i64 e.prev,.int .i64 e.next,.string e.key,.bool e.oldIs,.string e.old,.bool e.newIs,.string ByteArray.empty] 152 (0,0)):=Yak _ k 7 _ _ _ h6;have h8:(((((((((w.setCell ⟨k,0,none⟩ (.int .i64 e.kind)).setCell ⟨k,1,none⟩ (.int .i64 e.tx)).setCell ⟨k,2,none⟩ (.int .i64 e.prev)).setCell ⟨k,3,none⟩ (.int .i64 e.next)).setCell ⟨k,4,none⟩ (.string e.key)).setCell ⟨k,5,none⟩ (.bool e.oldIs)).setCell ⟨k,6,none⟩ (.string e.old)).setCell ⟨k,7,none⟩ (.bool e.newIs)).setCell ⟨k,8,none⟩ (.string e.new)).heap[k]? = some (.cells #[.int .i64 e.kind,.int .i64 e.tx,.int .i64 e.prev,.int .i64 e.next,.string e.key,.bool e.oldIs,.string e.old,.bool e.newIs,.string e.new] 152 (0,0)):=Yak _ k 8 _ _ _ h7;exact h8
theorem Y1s (h:j≠k):(Yho w k e).heap[j]? = w.heap[j]?:=by
 unfold Yho;rw [Below.heap_setCell _ _ _ _ h,Below.heap_setCell _ _ _ _ h,Below.heap_setCell _ _ _ _ h,Below.heap_setCell _ _ _ _ h,Below.heap_setCell _ _ _ _ h,Below.heap_setCell _ _ _ _ h,Below.heap_setCell _ _ _ _ h,Below.heap_setCell _ _ _ _ h,Below.heap_setCell _ _ _ _ h]
theorem Ytp (h:Below wr.heap.size wr w) (hk:wr.heap.size≤k):Below wr.heap.size wr (Yho w k e):=
 ((((((((h.setCell (p:=⟨k,0,none⟩) hk _).setCell (p:=⟨k,1,none⟩) hk _).setCell (p:=⟨k,2,none⟩) hk _).setCell (p:=⟨k,3,none⟩) hk _).setCell (p:=⟨k,4,none⟩) hk _).setCell (p:=⟨k,5,none⟩) hk _).setCell (p:=⟨k,6,none⟩) hk _).setCell (p:=⟨k,7,none⟩) hk _).setCell (p:=⟨k,8,none⟩) hk _
theorem Yoh:(Yho w k e).heap.size=w.heap.size:=by simp
theorem Y1t (h:Below wr.heap.size wr w3):Fin wr ((w3.alloc (.cells #[.int .u32 a,.int .u32 c] 168)).alloc (.cells #[.int .i64 e.kind,.int .i64 e.tx,.int .i64 e.prev,.int .i64 e.next,.string e.key,.bool e.oldIs,.string e.old,.bool e.newIs,.string e.new] 152)) w3.heap.size (w3.heap.size+1) a c e:=
 ⟨(Below.heap_alloc _ _ _ (by simp)).trans (heap_alloc_new _ _),by simpa using heap_alloc_new (w3.alloc (.cells #[.int .u32 a,.int .u32 c] 168)) (.cells #[.int .i64 e.kind,.int .i64 e.tx,.int .i64 e.prev,.int .i64 e.next,.string e.key,.bool e.oldIs,.string e.old,.bool e.newIs,.string e.new] 152),(h.alloc h.size _).alloc (by have:=h.size;simp;omega) _⟩
theorem Y1u (h:Below wr.heap.size wr w3):Fin wr ((w3.alloc (.cells #[.int .i64 e.kind,.int .i64 e.tx,.int .i64 e.prev,.int .i64 e.next,.string e.key,.bool e.oldIs,.string e.old,.bool e.newIs,.string e.new] 152)).alloc (.cells #[.int .u32 a,.int .u32 c] 168)) (w3.heap.size+1) w3.heap.size a c e:=
 ⟨by simpa using heap_alloc_new (w3.alloc (.cells #[.int .i64 e.kind,.int .i64 e.tx,.int .i64 e.prev,.int .i64 e.next,.string e.key,.bool e.oldIs,.string e.old,.bool e.newIs,.string e.new] 152)) (.cells #[.int .u32 a,.int .u32 c] 168),(Below.heap_alloc _ _ _ (by simp)).trans (heap_alloc_new _ _),(h.alloc h.size _).alloc (by have:=h.size;simp;omega) _⟩
theorem Y1v (h:Below wr.heap.size wr w3) (hs:w3.heap[k]? = some (.cells #[.int .u32 0,.int .u32 0] 168 (0,0))) (hk:wr.heap.size≤k):Fin wr ((Yif w3 k a c).alloc (.cells #[.int .i64 e.kind,.int .i64 e.tx,.int .i64 e.prev,.int .i64 e.next,.string e.key,.bool e.oldIs,.string e.old,.bool e.newIs,.string e.new] 152)) k w3.heap.size a c e:=
 ⟨(Below.heap_alloc _ _ _ (by rw [Yog];exact Yaj hs)).trans (Ytm hs),by have:=heap_alloc_new (Yif w3 k a c) (.cells #[.int .i64 e.kind,.int .i64 e.tx,.int .i64 e.prev,.int .i64 e.next,.string e.key,.bool e.oldIs,.string e.old,.bool e.newIs,.string e.new] 152);rw [Yog] at this;exact this,(Ytn h hk).alloc (by rw [Yog];exact h.size) _⟩
theorem Y1w (h:Below wr.heap.size wr w3) (hs:w3.heap[k]? = some (.cells #[.int .i64 0,.int .i64 0,.int .i64 0,.int .i64 0,.string ByteArray.empty,.bool false,.string ByteArray.empty,.bool false,.string ByteArray.empty] 152 (0,0))) (hk:wr.heap.size≤k):Fin wr ((Yho w3 k e).alloc (.cells #[.int .u32 a,.int .u32 c] 168)) w3.heap.size k a c e:=
 ⟨by have:=heap_alloc_new (Yho w3 k e) (.cells #[.int .u32 a,.int .u32 c] 168);rw [Yoh] at this;exact this,(Below.heap_alloc _ _ _ (by rw [Yoh];exact Yaj hs)).trans (Yto hs),(Ytp h hk).alloc (by rw [Yoh];exact h.size) _⟩
theorem Y1x {k7 k8:Nat} (h:Below wr.heap.size wr w3) (h7:w3.heap[k7]? = some (.cells #[.int .u32 0,.int .u32 0] 168 (0,0))) (h8:w3.heap[k8]? = some (.cells #[.int .i64 0,.int .i64 0,.int .i64 0,.int .i64 0,.string ByteArray.empty,.bool false,.string ByteArray.empty,.bool false,.string ByteArray.empty] 152 (0,0))) (hk7:wr.heap.size≤k7) (hk8:wr.heap.size≤k8):Fin wr (Yho (Yif w3 k7 a c) k8 e) k7 k8 a c e:=by
 have hne:k7≠k8:=fun e=>by rw [e,h8] at h7;simp at h7
 exact ⟨(Y1s hne).trans (Ytm h7),Yto ((Y1r hne.symm).trans h8),Ytp (Ytn h hk7) hk8⟩
theorem Y1y (vb db:Nat) (D:Array Value) (ws:List (Nat×List Value)) (v:Value) (a a0 c0:Int) (e0:Yac) (lg:List (Yac×Int)) (hv:w.cell? ⟨vb,0,none⟩=some (.pointer (some ⟨db,0,none⟩))) (hD:Yen w db D ws v) (hlen:lg.length<400)
 (hl:∀ (i:Nat) (h:i<lg.length),Yf8 D ws i a lg[i].2 lg[i].1) (hz:Yf8 D ws lg.length a0 c0 e0) (hne:a0≠a):
 Calls prog 103 #[.pointer (some ⟨vb,0,none⟩),.int .u32 a] w fun e w'=>∃ v',e=.returned v'∧w'.ownsRow w.heap.size 152 9 v' lg.length (Ybf (lg.map (·.1)))∧Below w.heap.size w w':=by
 have KE:Hid (∀ (k:Nat) W,k<400→Calls prog 149 #[.int .i64 ((k:Int)+1)] W fun e w'=>e=.returned (.int .i64 ((34+k:Nat):Int))∧W=w'):=fun k W hk=>by
  have h:=Yro (k+1) W (by omega) (by omega);rw [show ((k+1:Nat):Int)=(k:Int)+1 by omega,show 33+(k+1)=34+k by omega] at h;exact h
 have KR:Hid (∀ (k:Nat) W,k<400→Below w.heap.size w W→Calls prog 107 #[.pointer (some ⟨db,0,none⟩),.int .i64 ((34+k:Nat):Int)] W fun e w'=>e=.returned (.agg (Yay D ws (34+k)).toArray)∧Below W.heap.size W w'):=fun k W hk hW=>Yrc (hD.below hW) _ (by omega)
 have KU:Hid (∀ (k:Nat) (a c:Int) (e:Yac) W,Yf8 D ws k a c e→Calls prog 148 #[.agg (Yay D ws (34+k)).toArray] W fun r w'=>r=.returned (.tuple #[.agg #[.int .u32 a,.int .u32 c],.agg e.cells,.bool true])∧Below W.heap.size W w'):=fun k a c e W ⟨h1,h2,h3,h4,h5,h6,h7,h8⟩=>by
  rw [h1];exact Yxp a c e W h2 h3 h4 h5 h6 h7 h8
 have HL:=Yh hl
 have HZ:=Yh hz
 have hvw:vb<w.heap.size:=World.block_lt_of_cell? w _ hv
 clear hD hl hz
 go_enter func103,ntmps103
 go_wp2
 go_loopw [5,10] (fun u i wr=>∃ k:Nat,k≤lg.length∧i=.int .i64 k∧wr.ownsRow w.heap.size 152 9 u k (Ybf ((lg.take k).map (·.1)))∧Below w.heap.size w wr) (fun _ i _=>400 - (intOf i).toNat)
 case atStart=>exact ⟨0,by omega,rfl,World.ownsRow_nil _ _ _ _,Below.refl _ _⟩
 case round=>
  obtain ⟨k,hk,rfl,hout,hbr⟩:=hrel;have HBR:=Yh hbr;have hsz:=hbr.size;have HOUT:=Yh hout;have hk4:k<400:=by omega
  have hk4':(k:Int)<400:=by omega
  have hwk:IntKind.i64.wrap ((k:Int)+1)=(k:Int)+1:=by rw [IntKind.wrap_i64];omega
  have d0:wr.cell? ⟨vb,0,none⟩=some (.pointer (some ⟨db,0,none⟩)):=(hbr.cell hvw).trans hv;have KE1:Hid (∀ W,Calls prog 149 #[.int .i64 ((k:Int)+1)] W fun e w'=>e=.returned (.int .i64 ((34+k:Nat):Int))∧W=w'):=fun W=>KE.out k W hk4
  have KR1:Hid (∀ W,Below w.heap.size w W→Calls prog 107 #[.pointer (some ⟨db,0,none⟩),.int .i64 ((34+k:Nat):Int)] W fun e w'=>e=.returned (.agg (Yay D ws (34+k)).toArray)∧Below W.heap.size W w'):=fun W=>KR.out k W hk4
  obtain ⟨ax,cx,ex,hax,hrd⟩:∃ ax cx ex,((k<lg.length∧ax=a∧lg[k]? = some (ex,cx))∨(k=lg.length∧ax=a0))∧Yf8 D ws k ax cx ex:=by
   by_cases hlt:k<lg.length
   ·exact ⟨a,lg[k].2,lg[k].1,.inl ⟨hlt,rfl,List.getElem?_eq_getElem hlt⟩,HL.out k hlt⟩
   ·obtain rfl:k=lg.length:=by omega
    exact ⟨a0,c0,e0,.inr ⟨rfl,rfl⟩,HZ.out⟩
  have KU1:Hid (∀ W,Calls prog 148 #[.agg (Yay D ws (34+k)).toArray] W fun r w'=>r=.returned (.tuple #[.agg #[.int .u32 ax,.int .u32 cx],.agg ex.cells,.bool true])∧Below W.heap.size W w'):=fun W=>KU.out k ax cx ex W hrd
  have HAX:=Yh hax;simp only [Yac.cells] at KU1;generalize (Yay D ws (34+k)).toArray=S at KR1 KU1;have HBD:Hid (Below w.heap.size w wr.drew):=hbr.drew;have hszd:w.heap.size≤wr.drew.heap.size:=hsz;clear hbr hout hrd hax hv;obtain ⟨nv0,nv1,nv2,nv3⟩:wr.heap.size≠vb∧wr.heap.size+1≠vb∧vb≠wr.heap.size∧vb≠wr.heap.size+1:=by omega
  go_upto_region 5 with fail
  go_cut [7,8,9,10] from 10 to 38 (fun p7 p8 ok ix wx=>∃ k7 k8,p7=.pointer (some ⟨k7,0,none⟩)∧p8=.pointer (some ⟨k8,0,none⟩)∧ok=.bool true∧ix=.int .i64 k∧Fin wr wx k7 k8 ax cx ex)
  case first=>
   go_region_held3 (fun w'=>w'.cell? ⟨vb,0,none⟩=some (.pointer (some ⟨db,0,none⟩)))
    (go_keep)
    (first
     | (go_at_call 149;go_must (
      refine (KE1.out _).mono ?_;rintro e w' ⟨rfl,rfl⟩))
     | (go_at_call 107;go_must (
      refine (KR1.out _ (by first | exact HBD.out | exact HBD.out.alloc hszd _ | exact (HBD.out.alloc hszd _).alloc (by simp;omega) _)).mono ?_;rintro e w2 ⟨rfl,hb2⟩;first
       | (
        have hx:Below wr.heap.size wr w2∧wr.heap.size≤w2.heap.size∧(∀ (k:Nat) (o:Obj),wr.drew.heap[k]? = some o→w2.heap[k]? = some o)∧w2.heap[wr.heap.size]? = some (.cells #[.int .u32 0,.int .u32 0] 168 (0,0))∧w2.heap[wr.heap.size+1]? = some (.cells #[.int .i64 0,.int .i64 0,.int .i64 0,.int .i64 0,.string ByteArray.empty,.bool false,.string ByteArray.empty,.bool false,.string ByteArray.empty] 152 (0,0)):=Yl3 (Below.refl wr.heap.size wr).drew (Nat.le_refl _) hb2;obtain ⟨hB2,hs2,_,p1,p2⟩:=hx;have n1:wr.heap.size≠w2.heap.size∧w2.heap.size≠wr.heap.size∧wr.heap.size+1≠w2.heap.size∧w2.heap.size≠wr.heap.size+1:=by have:=Yaj p1;have:=Yaj p2;omega
        have HP:=Yh (And.intro p1 p2);clear p1 p2)
       | (
        have hx:Below wr.heap.size wr w2∧wr.heap.size≤w2.heap.size∧(∀ (k:Nat) (o:Obj),wr.drew.heap[k]? = some o→w2.heap[k]? = some o)∧w2.heap[wr.heap.size]? = some (.cells #[.int .i64 0,.int .i64 0,.int .i64 0,.int .i64 0,.string ByteArray.empty,.bool false,.string ByteArray.empty,.bool false,.string ByteArray.empty] 152 (0,0))∧w2.heap[wr.heap.size+1]? = some (.cells #[.int .u32 0,.int .u32 0] 168 (0,0)):=Yl3 (Below.refl wr.heap.size wr).drew (Nat.le_refl _) hb2;obtain ⟨hB2,hs2,_,p1,p2⟩:=hx;have n1:wr.heap.size≠w2.heap.size∧w2.heap.size≠wr.heap.size∧wr.heap.size+1≠w2.heap.size∧w2.heap.size≠wr.heap.size+1:=by have:=Yaj p1;have:=Yaj p2;omega
        have HP:=Yh (And.intro p1 p2);clear p1 p2)
       | (
        have hx:Below wr.heap.size wr w2∧wr.heap.size≤w2.heap.size∧(∀ (k:Nat) (o:Obj),wr.drew.heap[k]? = some o→w2.heap[k]? = some o)∧w2.heap[wr.heap.size]? = some (.cells #[.int .u32 0,.int .u32 0] 168 (0,0)):=Ykl (Below.refl wr.heap.size wr).drew (Nat.le_refl _) hb2;obtain ⟨hB2,hs2,_,p1⟩:=hx;have n1:wr.heap.size≠w2.heap.size∧w2.heap.size≠wr.heap.size:=by have:=Yaj p1;omega
        have HP:=Yh p1;clear p1)
       | (
        have hx:Below wr.heap.size wr w2∧wr.heap.size≤w2.heap.size∧(∀ (k:Nat) (o:Obj),wr.drew.heap[k]? = some o→w2.heap[k]? = some o)∧w2.heap[wr.heap.size]? = some (.cells #[.int .i64 0,.int .i64 0,.int .i64 0,.int .i64 0,.string ByteArray.empty,.bool false,.string ByteArray.empty,.bool false,.string ByteArray.empty] 152 (0,0)):=Ykl (Below.refl wr.heap.size wr).drew (Nat.le_refl _) hb2;obtain ⟨hB2,hs2,_,p1⟩:=hx;have n1:wr.heap.size≠w2.heap.size∧w2.heap.size≠wr.heap.size:=by have:=Yaj p1;omega
        have HP:=Yh p1;clear p1)
       | (
        have hx:Below wr.heap.size wr w2∧wr.heap.size≤w2.heap.size∧(∀ (k:Nat) (o:Obj),wr.drew.heap[k]? = some o→w2.heap[k]? = some o):=Yof (Below.refl wr.heap.size wr).drew (Nat.le_refl _) hb2;obtain ⟨hB2,hs2,_⟩:=hx)
      have d2:w2.cell? ⟨vb,0,none⟩=some (.pointer (some ⟨db,0,none⟩)):=(hB2.cell (by simp;omega)).trans d0;have HB2:=Yh hB2;obtain ⟨nw0,nw1,nw2,nw3⟩:w2.heap.size≠vb∧w2.heap.size+1≠vb∧vb≠w2.heap.size∧vb≠w2.heap.size+1:=by omega
      clear hb2 hB2))
     | (go_at_call 148;go_must (
      refine (KU1.out _).mono ?_;rintro e w3 ⟨rfl,hb3⟩;first
       | (
        have hx:Below wr.heap.size wr w3∧wr.heap.size≤w3.heap.size∧(∀ (k:Nat) (o:Obj),w2.heap[k]? = some o→w3.heap[k]? = some o)∧w3.heap[w2.heap.size]? = some (.cells #[.int .u32 0,.int .u32 0] 168 (0,0))∧w3.heap[w2.heap.size+1]? = some (.cells #[.int .i64 0,.int .i64 0,.int .i64 0,.int .i64 0,.string ByteArray.empty,.bool false,.string ByteArray.empty,.bool false,.string ByteArray.empty] 152 (0,0)):=Yl3 HB2.out hs2 hb3;obtain ⟨hB3,hs3,hk3,q1,q2⟩:=hx)
       | (
        have hx:Below wr.heap.size wr w3∧wr.heap.size≤w3.heap.size∧(∀ (k:Nat) (o:Obj),w2.heap[k]? = some o→w3.heap[k]? = some o)∧w3.heap[w2.heap.size]? = some (.cells #[.int .i64 0,.int .i64 0,.int .i64 0,.int .i64 0,.string ByteArray.empty,.bool false,.string ByteArray.empty,.bool false,.string ByteArray.empty] 152 (0,0))∧w3.heap[w2.heap.size+1]? = some (.cells #[.int .u32 0,.int .u32 0] 168 (0,0)):=Yl3 HB2.out hs2 hb3;obtain ⟨hB3,hs3,hk3,q1,q2⟩:=hx)
       | (
        have hx:Below wr.heap.size wr w3∧wr.heap.size≤w3.heap.size∧(∀ (k:Nat) (o:Obj),w2.heap[k]? = some o→w3.heap[k]? = some o)∧w3.heap[w2.heap.size]? = some (.cells #[.int .u32 0,.int .u32 0] 168 (0,0)):=Ykl HB2.out hs2 hb3;obtain ⟨hB3,hs3,hk3,q1⟩:=hx)
       | (
        have hx:Below wr.heap.size wr w3∧wr.heap.size≤w3.heap.size∧(∀ (k:Nat) (o:Obj),w2.heap[k]? = some o→w3.heap[k]? = some o)∧w3.heap[w2.heap.size]? = some (.cells #[.int .i64 0,.int .i64 0,.int .i64 0,.int .i64 0,.string ByteArray.empty,.bool false,.string ByteArray.empty,.bool false,.string ByteArray.empty] 152 (0,0)):=Ykl HB2.out hs2 hb3;obtain ⟨hB3,hs3,hk3,q1⟩:=hx)
       | (
        have hx:Below wr.heap.size wr w3∧wr.heap.size≤w3.heap.size∧(∀ (k:Nat) (o:Obj),w2.heap[k]? = some o→w3.heap[k]? = some o):=Yof HB2.out hs2 hb3;obtain ⟨hB3,hs3,hk3⟩:=hx)
      have d3:w3.cell? ⟨vb,0,none⟩=some (.pointer (some ⟨db,0,none⟩)):=(hB3.cell (by simp;omega)).trans d0;first
       | (
        have r1:=hk3 _ _ HP.out.1;have r2:=hk3 _ _ HP.out.2;first | (obtain ⟨sa0,sa1,sa2,sa3,sa4,sa5,sa6⟩:=Yjg r1;have HS3:=Yh r1) | (obtain ⟨ea0,ea1,ea2,ea3,ea4,ea5,ea6,ea7,ea8,ea9,ea10,ea11,ea12,ea13,ea14,ea15,ea16,ea17,ea18,ea19,ea20⟩:=Yjh r1;have HE3:=Yh r1)
        first | (obtain ⟨sb0,sb1,sb2,sb3,sb4,sb5,sb6⟩:=Yjg r2;have HS3:=Yh r2) | (obtain ⟨eb0,eb1,eb2,eb3,eb4,eb5,eb6,eb7,eb8,eb9,eb10,eb11,eb12,eb13,eb14,eb15,eb16,eb17,eb18,eb19,eb20⟩:=Yjh r2;have HE3:=Yh r2)
        clear r1 r2)
       | (
        have r1:=hk3 _ _ HP.out;first | (obtain ⟨sa0,sa1,sa2,sa3,sa4,sa5,sa6⟩:=Yjg r1;have HS3:=Yh r1) | (obtain ⟨ea0,ea1,ea2,ea3,ea4,ea5,ea6,ea7,ea8,ea9,ea10,ea11,ea12,ea13,ea14,ea15,ea16,ea17,ea18,ea19,ea20⟩:=Yjh r1;have HE3:=Yh r1)
        clear r1)
       | skip
      first
       | (
        first | (obtain ⟨sc0,sc1,sc2,sc3,sc4,sc5,sc6⟩:=Yjg q2;have HS3:=Yh q2) | (obtain ⟨ec0,ec1,ec2,ec3,ec4,ec5,ec6,ec7,ec8,ec9,ec10,ec11,ec12,ec13,ec14,ec15,ec16,ec17,ec18,ec19,ec20⟩:=Yjh q2;have HE3:=Yh q2)
        first | (obtain ⟨sd0,sd1,sd2,sd3,sd4,sd5,sd6⟩:=Yjg q1;have HS3:=Yh q1) | (obtain ⟨ed0,ed1,ed2,ed3,ed4,ed5,ed6,ed7,ed8,ed9,ed10,ed11,ed12,ed13,ed14,ed15,ed16,ed17,ed18,ed19,ed20⟩:=Yjh q1;have HE3:=Yh q1)
        clear q1 q2)
       | (
        first | (obtain ⟨sd0,sd1,sd2,sd3,sd4,sd5,sd6⟩:=Yjg q1;have HS3:=Yh q1) | (obtain ⟨ed0,ed1,ed2,ed3,ed4,ed5,ed6,ed7,ed8,ed9,ed10,ed11,ed12,ed13,ed14,ed15,ed16,ed17,ed18,ed19,ed20⟩:=Yjh q1;have HE3:=Yh q1)
        clear q1)
       | skip
      have HB3:=Yh hB3;obtain ⟨nx0,nx1,nx2,nx3⟩:w3.heap.size≠vb∧w3.heap.size+1≠vb∧vb≠w3.heap.size∧vb≠w3.heap.size+1:=by omega
      clear hb3 hB3 hk3)))
   all_goals
    go_wp2_with fail
    go_meet
   all_goals
    refine ⟨_,_,rfl,rfl,rfl,rfl,?_⟩;first
     | with_reducible exact Y1t HB3.out
     | with_reducible exact Y1u HB3.out
     | with_reducible exact Y1v HB3.out HS3.out (by omega)
     | with_reducible exact Y1w HB3.out HE3.out (by omega)
     | with_reducible exact Y1x HB3.out HS3.out HE3.out (by omega) (by omega)
  case rest=>
   obtain ⟨k7,k8,rfl,rfl,rfl,rfl,f7,f8,hBx⟩:=hcut;have z0:=Yaa (j:=0) f7 rfl;have y0:=Yaa (j:=0) f8 rfl;have y1:=Yaa (j:=1) f8 rfl;have y2:=Yaa (j:=2) f8 rfl;have y3:=Yaa (j:=3) f8 rfl;have y4:=Yaa (j:=4) f8 rfl;have y5:=Yaa (j:=5) f8 rfl;have y6:=Yaa (j:=6) f8 rfl;have y7:=Yaa (j:=7) f8 rfl;have y8:=Yaa (j:=8) f8 rfl;clear f7 f8;have HBX:=Yh hBx;have hsx:=hBx.size;have hwk2:wrap64 ((k:Int)+1)=(k:Int)+1:=by simp only [wrap64];omega
   clear hwk KE KR KU KE1 KR1 KU1 hBx;rcases HAX.out with ⟨hlt,rfl,hget⟩ | ⟨rfl,rfl⟩
   ·have HGET:=Yh hget
    have HO2:=Ybe HOUT.out HBX.out (fun g hg=>(HOUT.out.lt g hg).2);have HOW:=Yh HO2;clear hget HO2 hne;go_wp2_with (first
     | (at_builtin;go_must (
      refine Ytl rfl _ _ rfl w.heap.size _ ((lg.take k).map (·.1)) k (by simp;omega) rfl (HOW.out.alloc _) wc.heap.size ex rfl (heap_alloc_new _ _) (by omega) (by simp;omega) ?_;intro v5 w5 hown5 hb5;have HO5:=Yh hown5;have HB5:Hid (Below w.heap.size w w5):=(HBR.out.trans (HBX.out.mono hsz)).trans (((Below.refl _ _).alloc (by omega) _).trans hb5);clear hown5 hb5)))
    refine ⟨⟨k+1,by omega,by simp,?_,HB5.out⟩,by simp [intOf];omega⟩;have e1:(lg.take (k+1)).map (·.1)=(lg.take k).map (·.1) ++ [ex]:=by
     rw [List.take_add_one,HGET.out];simp
    rw [e1];exact HO5.out
   ·have hne1:(ax == a)=false:=by simpa using hne
    have HO2:=Ybe HOUT.out HBX.out (fun g hg=>(HOUT.out.lt g hg).2);rw [List.take_length] at HO2;have HOW:=Yh HO2;clear HO2;go_wp2;go_ret;exact ⟨_,rfl,HOW.out,HBR.out.trans (HBX.out.mono hsz)⟩
end Go.Proofs.YtihbngfbcnojcaaGreat
