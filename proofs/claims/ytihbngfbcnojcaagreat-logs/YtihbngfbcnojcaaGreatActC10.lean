import Derived.Test.YtihbngfbcnojcaaGreatActC09
import Derived.Sort.MapsRangeIn
set_option maxRecDepth 100000
set_option maxHeartbeats 8000000
namespace Go.Proofs.YtihbngfbcnojcaaGreat
open Go.RowKit Tryz
variable {Kd M:DataW Value} {b:Nat} {w w':World}
theorem Yrp (ws:List (Nat×List Value)) (a:Nat) (S:List Value):Ycs (ws ++ [(a,S)])=Ycs ws ++ (Value.int .i64 (a:Int) :: S):=by simp [Ycs]
def Ylo (w w':World) (cb vb db:Nat) (C:Array Value) (T:TypeId) (len:Nat) (start count turn:Int) (D:Array Value) (ws:List (Nat×List Value)) (v:Value) (body:List Value):Prop:=
 ∃ v',w'.heap[cb]? = some (.cells (C.setIfInBounds 1 (.int .i64 ((len+1:Nat):Int))) T (0,0))∧w'.heap[vb]? = some (.cells (Ybl db start (count+1) turn) 126 (0,0)) ∧
  w'.heap[db]? = some (.cells (D.setIfInBounds 27776 v') 103 (0,0))∧w'.ownsRow (db+1) 143 65 v' (ws.length+1) (Ycs (ws ++ [(34+len,Yam start (count+1) body)])) ∧
  (v'.ownBlock=v.ownBlock∨∃ k,w.heap.size≤k∧v'.ownBlock=some k)∧(∀ k,k<w.heap.size→k≠cb→k≠vb→k≠db→v.ownBlock≠some k→w'.heap[k]? = w.heap[k]?)∧Below 0 w w'
theorem Yrq (cb vb db:Nat) (C:Array Value) (T:TypeId) (len:Nat) (start count turn:Int) (D:Array Value) (ws:List (Nat×List Value)) (v:Value) (e:Yac) (w:World)
 (hC:w.heap[cb]? = some (.cells C T (0,0))) (hC0:C[0]? = some (.pointer (some ⟨vb,0,none⟩))) (hC1:C[1]? = some (.int .i64 (len:Int))) (hlen:len≤390)
 (hv:w.heap[vb]? = some (.cells (Ybl db start count turn) 126 (0,0))) (hs:0≤start) (hs':start<4294967295) (hc:0≤count) (hc':count<4294967294)
 (hd:Yen w db D ws v) (hDf:D[27777]? = some (.int .i64 0)) (hown:w.ownsRow (db+1) 143 65 v ws.length (Ycs ws)) (hws:ws.length≤99999)
 (n1:cb≠vb) (n2:cb≠db) (n3:vb≠db) (n4:v.ownBlock≠some cb) (n5:v.ownBlock≠some vb) (he:e.Fits):
 Calls prog 286 #[.pointer (some ⟨cb,0,none⟩),.agg e.cells] w fun r w'=>r=.returned (.int .i64 ((len+1:Nat):Int))∧Ylo w w' cb vb db C T len start count turn D ws v e.body:=by
 have hcw:cb<w.heap.size:=Yaj hC
 have hvw:vb<w.heap.size:=Yaj hv
 have hdw:db<w.heap.size:=Yaj hd.1
 have c0:w.cell? ⟨cb,0,none⟩=some (.pointer (some ⟨vb,0,none⟩)):=Yaa hC hC0
 have c1:w.cell? ⟨cb,1,none⟩=some (.int .i64 (len:Int)):=Yaa hC hC1
 have f1:=Yah 1 hC
 have hl1:wrap64 ((len:Int)+1)=(len:Int)+1:=by simp only [wrap64];omega
 obtain ⟨A,hA⟩:∃ A:Nat,34+len=A:=⟨_,rfl⟩
 have hcast:((len+1:Nat):Int)=(len:Int)+1:=by omega
 have KE:∀ W,Calls prog 149 #[.int .i64 ((len:Int)+1)] W fun e w'=>e=.returned (.int .i64 (A:Int))∧W=w':=fun W=>by
  have:=Yro (len+1) W (by omega) (by omega);rw [hcast,show 33+(len+1)=A by omega] at this;exact this
 have KP:=fun W=>Yu4 start (count+1) e W hs (by omega) (by omega) (by omega) he
 have HSL:Hid ((Yam start (count+1) e.body).length=64):=Yeh start _ _ (by rw [Yac.body_length _ he];omega)
 have HS1:Hid (∀ u∈Yam start (count+1) e.body,u.oneCell'=true):=Yfy start _ _ (Yac.body_one e)
 have HFIN:Hid (∀ w' v',w'.heap[cb]? = some (.cells (C.setIfInBounds 1 (.int .i64 ((len:Int)+1))) T (0,0))→w'.heap[vb]? = some (.cells (Ybl db start (count+1) turn) 126 (0,0))→w'.heap[db]? = some (.cells (D.setIfInBounds 27776 v') 103 (0,0)) →
  w'.ownsRow (db+1) 143 65 v' (ws.length+1) (Ycs ws ++ (Value.int .i64 (A:Int) :: Yam start (count+1) e.body))→(v'.ownBlock=v.ownBlock∨∃ k,w.heap.size≤k∧v'.ownBlock=some k)→(∀ k,k<w.heap.size→k≠cb→k≠vb→k≠db→v.ownBlock≠some k→w'.heap[k]? = w.heap[k]?)→Below 0 w w'→Ylo w w' cb vb db C T len start count turn D ws v e.body):=
  fun w' v' h1 h2 h3 h4 h5 h6 h7=>⟨v',by rw [hcast];exact h1,h2,h3,by rw [Yrp,hA];exact h4,h5,h6,h7⟩
 obtain ⟨kind,tx,prev,next,key,oldIs,old,newIs,new⟩:=e
 simp only [Yac.cells] at KP ⊢
 generalize (Yac.body ⟨kind,tx,prev,next,key,oldIs,old,newIs,new⟩)=body at KP HSL HS1 HFIN ⊢
 generalize Yam start (count+1) body=S at KP HSL HS1 HFIN
 rw [hcast]
 generalize Ylo w=AD at HFIN ⊢
 have HKE:=Yh KE
 have HKP:=Yh KP
 have HD:Hid (Yen w db D ws v∧D[27777]? = some (.int .i64 0)):=⟨hd,hDf⟩
 have HO:=Yh hown
 have HC:=Yh hC
 have HC0:=Yh hC0
 have HC1':Hid (C[1]? = some (.int .i64 (len:Int))):=hC1
 have HV:=Yh hv
 have HLT:Hid (∀ g,v.ownBlock=some g→db+1≤g∧g<w.heap.size):=fun g hg=>hown.lt g hg
 clear hcast hA KE KP hd hDf hown hC hC0 hC1 hv he hlen
 go_enter func286,ntmps286
 go_wp2
 obtain ⟨W1,hW1⟩:∃ W1,(w.setCell ⟨cb,1,none⟩ (.int .i64 ((len:Int)+1))).alloc (.cells #[.int .i64 kind,.int .i64 tx,.int .i64 prev,.int .i64 next,.string key,.bool oldIs,.string old,.bool newIs,.string new] 152)=W1:=⟨_,rfl⟩
 have hz1:W1.heap.size=w.heap.size+1:=by rw [←hW1];simp
 have hk1:∀ q,q<w.heap.size→q≠cb→W1.heap[q]? = w.heap[q]?:=fun q h1 h2=>by rw [←hW1,Below.heap_alloc _ _ _ (by simpa using h1),Below.heap_setCell _ _ _ _ h2]
 have hc1:W1.heap[cb]? = some (.cells (C.setIfInBounds 1 (.int .i64 ((len:Int)+1))) T (0,0)):=by rw [←hW1,Below.heap_alloc _ _ _ (by simpa using hcw)];exact Yak w cb 1 _ C T HC.out
 have he1:W1.heap[w.heap.size]? = some (.cells #[.int .i64 kind,.int .i64 tx,.int .i64 prev,.int .i64 next,.string key,.bool oldIs,.string old,.bool newIs,.string new] 152 (0,0)):=by
  rw [←hW1];have:=heap_alloc_new (w.setCell ⟨cb,1,none⟩ (.int .i64 ((len:Int)+1))) (.cells #[.int .i64 kind,.int .i64 tx,.int .i64 prev,.int .i64 next,.string key,.bool oldIs,.string old,.bool newIs,.string new] 152);simpa using this
 have hb1:Below 0 w W1:=by rw [←hW1];exact ((Below.refl _ _).setCell (p:=⟨cb,1,none⟩) (by simp) _).alloc (by simp) _
 rw [hW1]
 clear hW1
 have HK1:=Yh hk1
 have HC1:=Yh hc1
 have HE1:=Yh he1
 have HB1:=Yh hb1
 have HZ1:=Yh hz1
 have HV1:Hid (W1.heap[vb]? = some (.cells (Ybl db start count turn) 126 (0,0))):=(hk1 vb hvw (Ne.symm n1)).trans HV.out
 have hq0:(C.setIfInBounds 1 (.int .i64 ((len:Int)+1)))[0]? = some (.pointer (some ⟨vb,0,none⟩)):=by rw [Array.getElem?_setIfInBounds];simp;exact HC0.out
 have hq1:(C.setIfInBounds 1 (.int .i64 ((len:Int)+1)))[1]? = some (.int .i64 ((len:Int)+1)):=by
  have h2:=(Array.getElem?_eq_some_iff.1 HC1'.out).1;simp [h2]
 have HQ:Hid (∀ W:World,W.heap[cb]? = some (.cells (C.setIfInBounds 1 (.int .i64 ((len:Int)+1))) T (0,0))→W.cell? ⟨cb,0,none⟩=some (.pointer (some ⟨vb,0,none⟩))∧W.cell? ⟨cb,1,none⟩=some (.int .i64 ((len:Int)+1))):=fun W h=>⟨Yaa h hq0,Yaa h hq1⟩
 obtain ⟨d0,d1⟩:=HQ.out W1 hc1
 have d2:W1.cell? ⟨vb,0,none⟩=some (.pointer (some ⟨db,0,none⟩)):=Yaa HV1.out rfl
 have e0:W1.cell? ⟨w.heap.size,0,none⟩=some (.int .i64 kind):=Yaa (j:=0) HE1.out rfl
 have e1:W1.cell? ⟨w.heap.size,1,none⟩=some (.int .i64 tx):=Yaa (j:=1) HE1.out rfl
 have e2:W1.cell? ⟨w.heap.size,2,none⟩=some (.int .i64 prev):=Yaa (j:=2) HE1.out rfl
 have e3:W1.cell? ⟨w.heap.size,3,none⟩=some (.int .i64 next):=Yaa (j:=3) HE1.out rfl
 have e4:W1.cell? ⟨w.heap.size,4,none⟩=some (.string key):=Yaa (j:=4) HE1.out rfl
 have e5:W1.cell? ⟨w.heap.size,5,none⟩=some (.bool oldIs):=Yaa (j:=5) HE1.out rfl
 have e6:W1.cell? ⟨w.heap.size,6,none⟩=some (.string old):=Yaa (j:=6) HE1.out rfl
 have e7:W1.cell? ⟨w.heap.size,7,none⟩=some (.bool newIs):=Yaa (j:=7) HE1.out rfl
 have e8:W1.cell? ⟨w.heap.size,8,none⟩=some (.string new):=Yaa (j:=8) HE1.out rfl
 clear hz1 hk1 hc1 he1 hb1 hq0 hq1 c0 c1 f1 hl1
 go_region_held3 (fun w'=>w'.cell? ⟨cb,0,none⟩=some (.pointer (some ⟨vb,0,none⟩))∧w'.cell? ⟨cb,1,none⟩=some (.int .i64 ((len:Int)+1))∧w'.cell? ⟨vb,0,none⟩=some (.pointer (some ⟨db,0,none⟩))∧w'.cell? ⟨w.heap.size,0,none⟩=some (.int .i64 kind)∧w'.cell? ⟨w.heap.size,1,none⟩=some (.int .i64 tx)∧w'.cell? ⟨w.heap.size,2,none⟩=some (.int .i64 prev)∧w'.cell? ⟨w.heap.size,3,none⟩=some (.int .i64 next)∧w'.cell? ⟨w.heap.size,4,none⟩=some (.string key)∧w'.cell? ⟨w.heap.size,5,none⟩=some (.bool oldIs)∧w'.cell? ⟨w.heap.size,6,none⟩=some (.string old)∧w'.cell? ⟨w.heap.size,7,none⟩=some (.bool newIs)∧w'.cell? ⟨w.heap.size,8,none⟩=some (.string new))
  (go_keep)
  (first
   | (go_at_call 149;go_must (refine (HKE.out _).mono ?_;rintro e w' ⟨rfl,rfl⟩))
   | (go_at_call 124;go_must (
    refine (Ymw vb db start count turn W1.drew hc (by omega) HV1.out).mono ?_;rintro e w2 ⟨rfl,hv2,ho2,hb2⟩;have HV2:=Yh hv2;have HK2:Hid (∀ q,q<w.heap.size+1→q≠vb→w2.heap[q]? = W1.heap[q]?):=fun q h1 h2=>ho2 q (by have:=HZ1.out;simp;omega) h2
    have HB2:Hid (Below 0 w w2):=HB1.out.trans ((Below.refl _ _).drew.trans hb2);have HZ2:Hid (w.heap.size+1≤w2.heap.size):=by show _≤_;have h1:=hb2.size;have h2:=HZ1.out;simp at h1;omega
    obtain ⟨d0',d1'⟩:=HQ.out w2 ((HK2.out cb (by omega) n1).trans HC1.out);have d2':w2.cell? ⟨vb,0,none⟩=some (.pointer (some ⟨db,0,none⟩)):=Yaa hv2 rfl;have hE2:=(HK2.out w.heap.size (by omega) (by omega)).trans HE1.out;have g0:w2.cell? ⟨w.heap.size,0,none⟩=some (.int .i64 kind):=Yaa (j:=0) hE2 rfl;have g1:w2.cell? ⟨w.heap.size,1,none⟩=some (.int .i64 tx):=Yaa (j:=1) hE2 rfl;have g2:w2.cell? ⟨w.heap.size,2,none⟩=some (.int .i64 prev):=Yaa (j:=2) hE2 rfl;have g3:w2.cell? ⟨w.heap.size,3,none⟩=some (.int .i64 next):=Yaa (j:=3) hE2 rfl;have g4:w2.cell? ⟨w.heap.size,4,none⟩=some (.string key):=Yaa (j:=4) hE2 rfl;have g5:w2.cell? ⟨w.heap.size,5,none⟩=some (.bool oldIs):=Yaa (j:=5) hE2 rfl;have g6:w2.cell? ⟨w.heap.size,6,none⟩=some (.string old):=Yaa (j:=6) hE2 rfl;have g7:w2.cell? ⟨w.heap.size,7,none⟩=some (.bool newIs):=Yaa (j:=7) hE2 rfl;have g8:w2.cell? ⟨w.heap.size,8,none⟩=some (.string new):=Yaa (j:=8) hE2 rfl;clear hv2 ho2 hb2 hE2))
   | (go_at_call 296;go_must (
    refine (HKP.out w2).mono ?_;rintro e w3 ⟨rfl,hb3⟩;have HB3:=Yh hb3;have hz2:=HZ2.out;have HV3:Hid (w3.heap[vb]? = some (.cells (Ybl db start (count+1) turn) 126 (0,0))):=(hb3.block vb (by omega)).trans HV2.out;obtain ⟨d0'',d1''⟩:=HQ.out w3 ((hb3.block cb (by omega)).trans ((HK2.out cb (by omega) n1).trans HC1.out));have d2'':w3.cell? ⟨vb,0,none⟩=some (.pointer (some ⟨db,0,none⟩)):=Yaa HV3.out rfl;have hE3:=(hb3.block w.heap.size (by omega)).trans ((HK2.out w.heap.size (by omega) (by omega)).trans HE1.out);have i0:w3.cell? ⟨w.heap.size,0,none⟩=some (.int .i64 kind):=Yaa (j:=0) hE3 rfl;have i1:w3.cell? ⟨w.heap.size,1,none⟩=some (.int .i64 tx):=Yaa (j:=1) hE3 rfl;have i2:w3.cell? ⟨w.heap.size,2,none⟩=some (.int .i64 prev):=Yaa (j:=2) hE3 rfl;have i3:w3.cell? ⟨w.heap.size,3,none⟩=some (.int .i64 next):=Yaa (j:=3) hE3 rfl;have i4:w3.cell? ⟨w.heap.size,4,none⟩=some (.string key):=Yaa (j:=4) hE3 rfl;have i5:w3.cell? ⟨w.heap.size,5,none⟩=some (.bool oldIs):=Yaa (j:=5) hE3 rfl;have i6:w3.cell? ⟨w.heap.size,6,none⟩=some (.string old):=Yaa (j:=6) hE3 rfl;have i7:w3.cell? ⟨w.heap.size,7,none⟩=some (.bool newIs):=Yaa (j:=7) hE3 rfl;have i8:w3.cell? ⟨w.heap.size,8,none⟩=some (.string new):=Yaa (j:=8) hE3 rfl;have HW3:Hid (∀ q,q<w.heap.size→q≠cb→q≠vb→w3.heap[q]? = w.heap[q]?):=fun q h1 h2 h3=>(hb3.block q (by omega)).trans ((HK2.out q (by omega) h3).trans (HK1.out q h1 h2))
    have HC3:Hid (w3.heap[cb]? = some (.cells (C.setIfInBounds 1 (.int .i64 ((len:Int)+1))) T (0,0))):=(hb3.block cb (by omega)).trans ((HK2.out cb (by omega) n1).trans HC1.out);have HE3:=Yh hE3;have HZ3:Hid (w.heap.size+1≤w3.heap.size):=by show _≤_;have:=hb3.size;omega
    have HBZ:Hid (Below 0 w w3):=HB2.out.trans (hb3.mono (Nat.zero_le _));clear hb3 hE3 hz2))
   | (go_at_call 119;go_must (
    have hz3:=HZ3.out;refine (Ymq db (db+1) ws.length v (Ycs ws) (A:Int) S D w3 HSL.out HS1.out (by omega) (by omega) (Yda HO.out (fun g hg=>HW3.out g (HLT.out g hg).2 (fun e=>n4 (by rw [hg,e])) (fun e=>n5 (by rw [hg,e])))) (by omega) ((HW3.out db hdw (Ne.symm n2) (Ne.symm n3)).trans HD.out.1.1) HD.out.1.2.2.1 HD.out.2).mono ?_;rintro e w4 ⟨rfl,g,cap,hown4,hd4,ho4,hg4,hb4⟩;have q1:=(ho4 cb (by omega) n2 n4).trans HC3.out;have q2:=(ho4 vb (by omega) n3 n5).trans HV3.out;have q3:=(ho4 w.heap.size (by omega) (by omega) (fun e=>by have:=(HLT.out _ e).2;omega)).trans HE3.out;obtain ⟨d0a,d1a⟩:=HQ.out w4 q1;have d2a:w4.cell? ⟨vb,0,none⟩=some (.pointer (some ⟨db,0,none⟩)):=Yaa q2 rfl;have j0:w4.cell? ⟨w.heap.size,0,none⟩=some (.int .i64 kind):=Yaa (j:=0) q3 rfl;have j1:w4.cell? ⟨w.heap.size,1,none⟩=some (.int .i64 tx):=Yaa (j:=1) q3 rfl;have j2:w4.cell? ⟨w.heap.size,2,none⟩=some (.int .i64 prev):=Yaa (j:=2) q3 rfl;have j3:w4.cell? ⟨w.heap.size,3,none⟩=some (.int .i64 next):=Yaa (j:=3) q3 rfl;have j4:w4.cell? ⟨w.heap.size,4,none⟩=some (.string key):=Yaa (j:=4) q3 rfl;have j5:w4.cell? ⟨w.heap.size,5,none⟩=some (.bool oldIs):=Yaa (j:=5) q3 rfl;have j6:w4.cell? ⟨w.heap.size,6,none⟩=some (.string old):=Yaa (j:=6) q3 rfl;have j7:w4.cell? ⟨w.heap.size,7,none⟩=some (.bool newIs):=Yaa (j:=7) q3 rfl;have j8:w4.cell? ⟨w.heap.size,8,none⟩=some (.string new):=Yaa (j:=8) q3 rfl;have HF:=HFIN.out w4 (.slice (some ⟨g,0,none⟩) (ws.length+1) cap) q1 q2 hd4 hown4 (hg4.imp (fun h=>h.symm) (fun h=>⟨g,by omega,rfl⟩)) (fun k h1 h2 h3 h4 h5=>(ho4 k (by omega) h4 h5).trans (HW3.out k h1 h2 h3)) (HBZ.out.trans hb4);have HFF:=Yh HF;clear hown4 hd4 ho4 hg4 hb4 q1 q2 q3 HF hz3)))
 all_goals
  go_wp2;go_ret;exact ⟨rfl,HFF.out⟩
def Yrr (w w':World) (cb vb db tb hb:Nat) (C:Array Value) (T:TypeId) (len:Nat) (start count turn:Int) (D:Array Value) (ws:List (Nat×List Value)) (v:Value) (body:List Value):Prop:=
 ∃ v',w'.heap[cb]? = some (.cells (C.setIfInBounds 1 (.int .i64 ((len+1:Nat):Int))) T (0,0))∧w'.heap[vb]? = some (.cells (Ybl db start (count+1) turn) 126 (0,0)) ∧
  w'.heap[db]? = some (.cells (D.setIfInBounds 27776 v') 103 (0,0))∧w'.ownsRow (db+1) 143 65 v' (ws.length+1) (Ycs (ws ++ [(34+len,Yam start (count+1) body)])) ∧
  (v'.ownBlock=v.ownBlock∨∃ k,w.heap.size≤k∧v'.ownBlock=some k)∧Yf6 w' tb ((len+1:Nat):Int) hb∧(∀ k,k<w.heap.size→k≠cb→k≠vb→k≠db→k≠tb→v.ownBlock≠some k→w'.heap[k]? = w.heap[k]?)∧Below 0 w w'
theorem Yx4 (cb vb db mb k tb hb:Nat) (M:DataW Value) (C:Array Value) (T:TypeId) (len:Nat) (start count turn:Int) (D:Array Value) (ws:List (Nat×List Value)) (v:Value) (e:Yac) (t last:Int) (w:World)
 (hC:w.heap[cb]? = some (.cells C T (0,0))) (hC0:C[0]? = some (.pointer (some ⟨vb,0,none⟩))) (hC1:C[1]? = some (.int .i64 (len:Int))) (hC5:C[5]? = some (.map (some mb))) (hlen:len≤390)
 (hv:w.heap[vb]? = some (.cells (Ybl db start count turn) 126 (0,0))) (hs:0≤start) (hs':start<4294967295) (hc:0≤count) (hc':count<4294967294)
 (hd:Yen w db D ws v) (hDf:D[27777]? = some (.int .i64 0)) (hown:w.ownsRow (db+1) 143 65 v ws.length (Ycs ws)) (hws:ws.length≤99999)
 (n1:cb≠vb) (n2:cb≠db) (n3:vb≠db) (n4:v.ownBlock≠some cb) (n5:v.ownBlock≠some vb) (n6:tb≠cb) (n7:tb≠vb) (n8:tb≠db) (n9:v.ownBlock≠some tb)
 (ht:0≤t∧t<256) (hM:Yap w 3 mb k M) (ho:Yf7 M t tb) (htx:Yf6 w tb last hb) (he:Yac.Fits { e with tx:=t,prev:=last }):
 Calls prog 288 #[.pointer (some ⟨cb,0,none⟩),.int .i64 t,.agg e.cells] w fun r w'=>r=.returned (.tuple #[])∧Yrr w w' cb vb db tb hb C T len start count turn D ws v (Yac.body { e with tx:=t,prev:=last }):=by
 have hcw:cb<w.heap.size:=Yaj hC
 have hvw:vb<w.heap.size:=Yaj hv
 have hdw:db<w.heap.size:=Yaj hd.1
 have htw:tb<w.heap.size:=Yaj htx
 have hmw:mb<w.heap.size:=hM.lt
 have c5:w.cell? ⟨cb,5,none⟩=some (.map (some mb)):=Yaa hC hC5
 have ct:w.cell? ⟨tb,0,none⟩=some (.int .i64 last):=Yaa (j:=0) htx rfl
 have hlk:∀ o,(Instr.lookup 227 (.map (some mb)) (.int .i64 t) false).run prog (w.alloc o)=.ok (.pointer (some ⟨tb,0,none⟩)) (w.alloc o):=fun o=>Ykd ⟨by omega,by omega⟩ (hM.below ((Below.refl _ w).alloc (Nat.le_refl _) _)) ho
 have HLT:Hid (∀ g,v.ownBlock=some g→db+1≤g∧g<w.heap.size):=fun g hg=>hown.lt g hg
 have HADD:Hid (∀ W,Below w.heap.size w W→Calls prog 286 #[.pointer (some ⟨cb,0,none⟩),.agg (Yac.cells { e with tx:=t,prev:=last })] W fun r w'=>r=.returned (.int .i64 ((len+1:Nat):Int))∧Ylo W w' cb vb db C T len start count turn D ws v (Yac.body { e with tx:=t,prev:=last })):=fun W hW=>
  Yrq cb vb db C T len start count turn D ws v _ W ((hW.block _ hcw).trans hC) hC0 hC1 hlen ((hW.block _ hvw).trans hv) hs hs' hc hc' (hd.below hW) hDf (Ybe hown hW (fun g hg=>(hown.lt g hg).2)) hws n1 n2 n3 n4 n5 he
 have HTX:=Yh htx
 obtain ⟨kind,tx,prev,next,key,oldIs,old,newIs,new⟩:=e
 simp only [Yac.cells] at HADD ⊢
 generalize Yac.body (Yac.mk kind t last next key oldIs old newIs new)=body at HADD ⊢
 obtain ⟨L1,hL1⟩:∃ L1:Int,((len+1:Nat):Int)=L1:=⟨_,rfl⟩
 rw [hL1] at HADD
 have HL1:=Yh hL1
 clear hC hC0 hC1 hC5 hv hd hDf hown hM ho htx he hL1
 go_enter func288,ntmps288
 go_wp2
 have hnew:=heap_alloc_new w (.cells #[.int .i64 kind,.int .i64 tx,.int .i64 prev,.int .i64 next,.string key,.bool oldIs,.string old,.bool newIs,.string new] 152)
 have hB0:Below w.heap.size w (w.alloc (.cells #[.int .i64 kind,.int .i64 tx,.int .i64 prev,.int .i64 next,.string key,.bool oldIs,.string old,.bool newIs,.string new] 152)):=(Below.refl _ w).alloc (Nat.le_refl _) _
 revert hnew hB0
 generalize hW0:w.alloc (.cells #[.int .i64 kind,.int .i64 tx,.int .i64 prev,.int .i64 next,.string key,.bool oldIs,.string old,.bool newIs,.string new] 152)=W0
 intro hnew hB0
 have g0:W0.cell? ⟨tb,0,none⟩=some (.int .i64 last):=(hB0.cell (p:=⟨tb,0,none⟩) htw).trans ct
 have b1:=Yaa (j:=1) hnew rfl
 have b2:=Yaa (j:=2) hnew rfl
 have z1:=Yah 1 hnew
 have z2:=Yah 2 hnew
 have HN:=Yh hnew
 have HB0:=Yh hB0
 have hne:tb≠w.heap.size:=by omega
 clear hnew hB0 hlk ct c5 hW0
 go_region
 go_wp2
 obtain ⟨W2,hW2⟩:∃ W2,((W0.setCell ⟨w.heap.size,1,none⟩ (.int .i64 t)).setCell ⟨w.heap.size,2,none⟩ (.int .i64 last)).drew=W2:=⟨_,rfl⟩
 have hE:W2.heap[w.heap.size]? = some (.cells #[.int .i64 kind,.int .i64 t,.int .i64 last,.int .i64 next,.string key,.bool oldIs,.string old,.bool newIs,.string new] 152 (0,0)):=by
  rw [←hW2];exact Yak _ w.heap.size 2 (.int .i64 last) _ 152 (Yak W0 w.heap.size 1 (.int .i64 t) _ 152 HN.out)
 have hB2:Below w.heap.size w W2:=by rw [←hW2];exact ((HB0.out.setCell (p:=⟨w.heap.size,1,none⟩) (by simp) _).setCell (p:=⟨w.heap.size,2,none⟩) (by simp) _).drew
 rw [hW2]
 have HE:=Yh hE
 have HB2:=Yh hB2
 have HZ2:Hid (w.heap.size<W2.heap.size):=Yaj hE
 have e0:W2.cell? ⟨w.heap.size,0,none⟩=some (.int .i64 kind):=Yaa (j:=0) HE.out rfl
 have e1:W2.cell? ⟨w.heap.size,1,none⟩=some (.int .i64 t):=Yaa (j:=1) HE.out rfl
 have e2:W2.cell? ⟨w.heap.size,2,none⟩=some (.int .i64 last):=Yaa (j:=2) HE.out rfl
 have e3:W2.cell? ⟨w.heap.size,3,none⟩=some (.int .i64 next):=Yaa (j:=3) HE.out rfl
 have e4:W2.cell? ⟨w.heap.size,4,none⟩=some (.string key):=Yaa (j:=4) HE.out rfl
 have e5:W2.cell? ⟨w.heap.size,5,none⟩=some (.bool oldIs):=Yaa (j:=5) HE.out rfl
 have e6:W2.cell? ⟨w.heap.size,6,none⟩=some (.string old):=Yaa (j:=6) HE.out rfl
 have e7:W2.cell? ⟨w.heap.size,7,none⟩=some (.bool newIs):=Yaa (j:=7) HE.out rfl
 have e8:W2.cell? ⟨w.heap.size,8,none⟩=some (.string new):=Yaa (j:=8) HE.out rfl
 clear hW2 hE hB2 HN HB0 g0 b1 b2 z1 z2
 go_region_held3 (fun w'=>w'.cell? ⟨w.heap.size,0,none⟩=some (.int .i64 kind)∧w'.cell? ⟨w.heap.size,1,none⟩=some (.int .i64 t)∧w'.cell? ⟨w.heap.size,2,none⟩=some (.int .i64 last)∧w'.cell? ⟨w.heap.size,3,none⟩=some (.int .i64 next)∧w'.cell? ⟨w.heap.size,4,none⟩=some (.string key)∧w'.cell? ⟨w.heap.size,5,none⟩=some (.bool oldIs)∧w'.cell? ⟨w.heap.size,6,none⟩=some (.string old)∧w'.cell? ⟨w.heap.size,7,none⟩=some (.bool newIs)∧w'.cell? ⟨w.heap.size,8,none⟩=some (.string new))
  (go_keep)
  (first
   | (go_at_call 286;go_must (
    refine (HADD.out W2.drew HB2.out.drew).mono ?_;rintro e w4 ⟨rfl,v',h1,h2,h3,h4,h5,h6,h7⟩;have hz2:=HZ2.out;have hzb:=HB2.out.size;have hE4:=(h6 w.heap.size (by simpa using hz2) (by omega) (by omega) (by omega) (fun e=>by have:=(HLT.out _ e).2;omega)).trans HE.out;have hT4:w4.heap[tb]? = some (.cells #[.int .i64 last,.map (some hb)] 359 (0,0)):=(h6 tb (by simp;omega) n6 n7 n8 n9).trans ((HB2.out.block tb htw).trans HTX.out);have x0:=Yaa (j:=0) hT4 rfl;have y0:=Yah 0 hT4;have j0:w4.cell? ⟨w.heap.size,0,none⟩=some (.int .i64 kind):=Yaa (j:=0) hE4 rfl;have j1:w4.cell? ⟨w.heap.size,1,none⟩=some (.int .i64 t):=Yaa (j:=1) hE4 rfl;have j2:w4.cell? ⟨w.heap.size,2,none⟩=some (.int .i64 last):=Yaa (j:=2) hE4 rfl;have j3:w4.cell? ⟨w.heap.size,3,none⟩=some (.int .i64 next):=Yaa (j:=3) hE4 rfl;have j4:w4.cell? ⟨w.heap.size,4,none⟩=some (.string key):=Yaa (j:=4) hE4 rfl;have j5:w4.cell? ⟨w.heap.size,5,none⟩=some (.bool oldIs):=Yaa (j:=5) hE4 rfl;have j6:w4.cell? ⟨w.heap.size,6,none⟩=some (.string old):=Yaa (j:=6) hE4 rfl;have j7:w4.cell? ⟨w.heap.size,7,none⟩=some (.bool newIs):=Yaa (j:=7) hE4 rfl;have j8:w4.cell? ⟨w.heap.size,8,none⟩=some (.string new):=Yaa (j:=8) hE4 rfl;have HF:Hid (Yrr w (w4.setCell ⟨tb,0,none⟩ (.int .i64 L1)) cb vb db tb hb C T len start count turn D ws v body):=by
     refine ⟨v',(Below.heap_setCell _ _ _ _ (Ne.symm n6)).trans h1,(Below.heap_setCell _ _ _ _ (Ne.symm n7)).trans h2,(Below.heap_setCell _ _ _ _ (Ne.symm n8)).trans h3,Yda h4 (fun g hg=>Below.heap_setCell _ _ _ _ (fun e=>?_)),h5.imp id (fun ⟨k,a,b⟩=>⟨k,by simp at a;omega,b⟩),?_,fun k a1 a2 a3 a4 a5 a6=>?_,?_⟩
     ·subst e
      rcases h5 with h5 | ⟨k,a,b⟩
      ·exact n9 (h5.symm.trans hg)
      ·rw [b] at hg;simp at hg a;omega
     ·rw [HL1.out];exact Yak w4 tb 0 (.int .i64 L1) _ 359 hT4
     ·rw [Below.heap_setCell _ _ _ _ a5,h6 k (by simp;omega) a2 a3 a4 a6]
      exact HB2.out.block k a1
     ·exact ((HB2.out.mono (Nat.zero_le _)).drew.trans h7).setCell (p:=⟨tb,0,none⟩) (by simp) _
    clear h1 h2 h3 h4 h5 h6 h7 hE4 hT4 hz2 hzb)))
 all_goals
  go_wp2;go_end0;exact ⟨rfl,HF.out⟩
theorem Yx5 (pb o:Nat) (key:ByteArray) (w:World) (hk:key.size≤1000000) (Q:Nat→World→Prop) (ps:Yaf) (hlen:ps.length≤100000) (hr:Ybi ps)
 (KP:∀ ob W,Below w.heap.size w W→W.heap[w.heap.size]? = some ob→Calls prog 111 #[.pointer (some ⟨pb,o,none⟩),.int .i64 (Yae key)] W fun e w'=>∃ g,e=.returned (.pointer (some ⟨g,0,none⟩))∧w'.heap[w.heap.size]? = some ob∧Q g w')
 (hQ:∀ g w1,Q g w1→∃ turn v,Yh2 w1 g turn v ps):
 Calls prog 289 #[.pointer (some ⟨pb,o,none⟩),.string key] w fun e w'=>e=.returned (.agg #[.bool (Yag ps key).1,.string (Yag ps key).2])∧∃ g w1,Q g w1∧w.heap.size<w1.heap.size∧(∀ q,q<w1.heap.size→q≠w.heap.size→w'.heap[q]? = w1.heap[q]?)∧Below 0 w1 w':=by
 have KB:=fun W=>Yk2 key W hk
 have HKP:=Yh KP
 have HQ:=Yh hQ
 generalize Yae key=n at KB HKP
 generalize hu:Yag ps key=u
 have HU:=Yh hu
 obtain ⟨ui,us⟩:=u
 clear KP hQ hu
 go_enter func289,ntmps289
 go_wp2_with (first
  | (go_at_call 112;refine (KB _).mono ?_;rintro e w' ⟨rfl,rfl⟩)
  | (go_at_call 111;go_must (
   refine (HKP.out _ _ ((Below.refl _ w).alloc (Nat.le_refl _) _) (heap_alloc_new w _)).mono ?_;rintro e w1 ⟨g,rfl,hn1,hq1⟩;have HN1:=Yh hn1;have HQ1:=Yh hq1;clear hn1 hq1))
  | (go_at_call 297;go_must (
   obtain ⟨turn,v,hp⟩:=HQ.out g w1 HQ1.out;refine (Yvu g turn v ps key w1 hp hlen hr).mono ?_;rintro e w2 ⟨rfl,hb2⟩;rw [HU.out];have HB2:=Yh hb2;have q:=(hb2.block w.heap.size (Yaj HN1.out)).trans HN1.out;have x0:=Yaa (j:=0) q rfl;have x1:=Yaa (j:=1) q rfl;have y0:=Yah 0 q;have y1:=Yah 1 q;have HQQ:=Yh q;clear hb2 hp q)))
 have k3:=Yak _ w.heap.size 1 (.string us) _ 38 (Yak w2 w.heap.size 0 (.bool ui) _ 38 HQQ.out)
 refine bodyPost_ret (v:=.agg #[.bool ui,.string us]) (results_cell_row Tryz.results289 _ _ w.heap.size 38 #[.bool ui,.string us] (0,0) _ rfl k3 underlying38 rfl (by kernel_rfl)) rfl ⟨rfl,g,w1,HQ1.out,Yaj HN1.out,fun q h1 h2=>?_,?_⟩
 ·rw [Below.heap_setCell _ _ _ _ h2,Below.heap_setCell _ _ _ _ h2];exact HB2.out.block q h1
 ·exact ((HB2.out.mono (Nat.zero_le _)).setCell (p:=⟨w.heap.size,0,none⟩) (by simp) _).setCell (p:=⟨w.heap.size,1,none⟩) (by simp) _
def Yrs (w w':World) (Q:Nat→World→Prop) (mc kc:Nat) (Mc:DataW Value) (n:Int) (ps ps':Yaf):Prop:=
 ∃ g w1 w2 turn v,Q g w1∧Yh2 w1 g turn v ps∧w.heap.size<w1.heap.size∧Yle w1 w2 g turn v ps'∧Yap w' 3 mc (kc+1) (Mc.put (.int .i64 n) (.held (.agg #[])))∧(∀ q,q≠mc→w'.heap[q]? = w2.heap[q]?)∧w'.heap.size=w2.heap.size∧Below 0 w2 w'
theorem Yx6 (pb o mc kc:Nat) (Mc:DataW Value) (key:ByteArray) (is:Bool) (val:ByteArray) (w:World) (hk:key.size≤1000000) (hkc:kc≤100000) (hn:Yax (Yae key)) (Q:Nat→World→Prop) (ps:Yaf) (hlen:ps.length≤10000) (hr:Ybi ps)
 (KP:∀ ob W,Below w.heap.size w W→W.heap[w.heap.size]? = some ob→Calls prog 111 #[.pointer (some ⟨pb,o,none⟩),.int .i64 (Yae key)] W fun e w'=>∃ g,e=.returned (.pointer (some ⟨g,0,none⟩))∧w'.heap[w.heap.size]? = some ob∧Q g w')
 (hQ:∀ g w1,Q g w1→∃ turn v,Yh2 w1 g turn v ps∧v.ownBlock≠some g∧g≠pb∧g≠mc∧g≠w.heap.size∧v.ownBlock≠some pb∧v.ownBlock≠some mc∧v.ownBlock≠some w.heap.size∧pb<w1.heap.size∧w1.cell? ⟨pb,o+2,none⟩=some (.map (some mc))∧Yap w1 3 mc kc Mc):
 Calls prog 80 #[.pointer (some ⟨pb,o,none⟩),.string key,.agg #[.bool is,.string val]] w fun e w'=>e=.returned (.tuple #[])∧Yrs w w' Q mc kc Mc (Yae key) ps (Yaw ps key is val):=by
 have KB:=fun W=>Yk2 key W hk
 have HKP:=Yh KP
 have HQ:=Yh hQ
 have HUP:Hid (∀ W,Yap W 3 mc kc Mc→∃ w',(Instr.mapUpdate 128 (.map (some mc)) (.int .i64 (Yae key)) (.agg #[])).run prog W=.ok () w'∧Yap w' 3 mc (kc+1) (Mc.put (.int .i64 (Yae key)) (.held (.agg #[])))∧W.mapTurned w' mc):=fun W h=>
  World.ownsMap.store h (Maps.int_keyed underlying3) underlying128 (by unfold maxLen;omega) (Yf5 _ hn) rfl
 generalize Yae key=n at KB HKP HUP ⊢
 clear KP hQ hn
 go_enter func80,ntmps80
 go_wp2_with (first
  | (go_at_call 112;refine (KB _).mono ?_;rintro e w' ⟨rfl,rfl⟩))
 have hnew:=heap_alloc_new w (.cells #[.bool is,.string val] 38)
 have hB0:Below w.heap.size w (w.alloc (.cells #[.bool is,.string val] 38)):=(Below.refl _ w).alloc (Nat.le_refl _) _
 revert hnew hB0
 generalize w.alloc (.cells #[.bool is,.string val] 38)=W0
 intro hnew hB0
 have HN:=Yh hnew
 have HB0:=Yh hB0
 have x0:=Yaa (j:=0) hnew rfl
 have x1:=Yaa (j:=1) hnew rfl
 clear hnew hB0
 go_region_held3 (fun w'=>w'.cell? ⟨w.heap.size,0,none⟩=some (.bool is)∧w'.cell? ⟨w.heap.size,1,none⟩=some (.string val))
  (go_keep)
  (first
   | (go_at_call 111;go_must (
    refine (HKP.out _ W0.drew HB0.out.drew HN.out).mono ?_;rintro e w1 ⟨g,rfl,hn1,hq1⟩;have HN1:=Yh hn1;have HQ1:=Yh hq1;have a0:w1.cell? ⟨w.heap.size,0,none⟩=some (.bool is):=Yaa (j:=0) hn1 rfl;have a1:w1.cell? ⟨w.heap.size,1,none⟩=some (.string val):=Yaa (j:=1) hn1 rfl;clear hn1 hq1))
   | (go_at_call 113;go_must (
    obtain ⟨turn,v,hp,hvg,h1,h2,h3,h4,h5,h6,h7,h8,h9⟩:=HQ.out g w1 HQ1.out;refine (Yw0 g turn v ps key is val w1 hp hvg hlen hr).mono ?_;rintro e w2 ⟨rfl,hpt⟩;obtain ⟨v',hpa,hvg',hfr,hvb,hbb⟩:=hpt;have hn2:=(hfr w.heap.size (Yaj HN1.out) (Ne.symm h3) h6).trans HN1.out;have b0:w2.cell? ⟨w.heap.size,0,none⟩=some (.bool is):=Yaa (j:=0) hn2 rfl;have b1:w2.cell? ⟨w.heap.size,1,none⟩=some (.string val):=Yaa (j:=1) hn2 rfl;have hm2:Yap w2 3 mc kc Mc:=h9.kept (hfr mc h9.lt (Ne.symm h2) h5);have hp2:w2.cell? ⟨pb,o+2,none⟩=some (.map (some mc)):=(World.cell?_of_block (hfr pb h7 (Ne.symm h1) h4)).trans h8;obtain ⟨w3,hup,hm3,htu⟩:=HUP.out w2 hm2;have HF:Hid (Yrs w w3 Q mc kc Mc n ps (Yaw ps key is val)):=by
     obtain ⟨es,cl,es',cl',k1,k2⟩:=htu;have hz:w3.heap.size=w2.heap.size:=by rw [k2];simp [ChangeMaps.setBlock]
     exact ⟨g,w1,w2,turn,v,HQ1.out,hp,Yaj HN1.out,⟨v',hpa,hvg',hfr,hvb,hbb⟩,hm3,fun q hq=>by rw [k2];exact ChangeMaps.heap_setBlock_other k1 _ hq,hz,by rw [k2];rfl,by rw [k2];rfl,by rw [k2];rfl,by omega,fun q hq=>by omega⟩
    clear hp hvg h1 h2 h3 h4 h5 h6 h7 h8 h9 hpa hvg' hfr hvb hbb hn2 hm2 hm3 htu)))
 all_goals
  go_wp2;go_end0;exact ⟨rfl,HF.out⟩
abbrev lit (s:ByteArray):Lit:=.string s.data.toList
theorem Yhg {a b:ByteArray} (h:lit a=lit b):a=b:=by
 simp only [lit,Lit.string.injEq] at h;exact ByteArray.ext (Array.ext' h)
theorem Yx7 {s:ByteArray} {kl:Lit} (h:keyOf prog 9 (.string s)=some kl):kl=lit s∧keyOf prog 9 (.string s)=some (lit s):=by
 have h':=h;simp [keyOf,underlying9,mapKey] at h;obtain ⟨_,rfl⟩:=h;exact ⟨rfl,h'⟩
def Yia (w:World) (M:DataW Value) (F:Int→DataW Value):Prop:=
 ∀ (x:Int) (v:Value),(∀ zd,M.atKey (.int .i64 x) zd=.held v)→∃ tb last hb nH,v=.pointer (some ⟨tb,0,none⟩)∧Yf6 w tb last hb∧Yap w 9 hb nH (F x)∧nH≤2000000000000 ∧
  ∀ (s:ByteArray) (y:Value),(∀ zd,(F x).atKey (lit s) zd=.held y)→∃ h:Int,y=.int .i64 h∧s.size≤1000
theorem Yia.kept {F:Int→DataW Value} (h:Yia w M F) (kb:Nat) (hkb:∀ x v,(∀ zd,M.atKey (.int .i64 x) zd=.held v)→∀ tb last hb nH,v=.pointer (some ⟨tb,0,none⟩)→Yf6 w tb last hb→Yap w 9 hb nH (F x)→tb≠kb∧hb≠kb)
 (hk:∀ q,q<w.heap.size→q≠kb→w'.heap[q]? = w.heap[q]?):Yia w' M F:=fun x v hx=>by
 obtain ⟨tb,last,hb,nH,h1,h2,h3,h4,h5⟩:=h x v hx
 obtain ⟨n1,n2⟩:=hkb x v hx tb last hb nH h1 h2 h3
 exact ⟨tb,last,hb,nH,h1,(hk tb (Yaj h2) n1).trans h2,h3.kept (hk hb h3.lt n2),h4,h5⟩
def Yke (M:DataW Value) (F:Int→DataW Value) (n:Nat) (s:ByteArray):Prop:=
 ∃ x:Int,Maps.has M (.int .i64 x)=true∧(∀ zd,(F x).atKey (lit s) zd=.held (.int .i64 2))∧Yae s=n
structure Yfl (ps:Yaf) (M:DataW Value) (F:Int→DataW Value) (n:Nat) (Kd:DataW Value):Prop where
 isMap:Maps.IsMap Kd
 sound:∀ s:ByteArray,Maps.has Kd (lit s)=true→(∃ p∈ps,p.1=s)∨Yke M F n s
 val:∀ (s:ByteArray) zd,Maps.has Kd (lit s)=true→Kd.atKey (lit s) zd=.held (.int .i64 2)
 tidy:Maps.Tidy Kd
 keys:∃ L:List ByteArray,L.Nodup∧L.length=Maps.size Kd∧∀ s:ByteArray,s∈L↔Maps.has Kd (lit s)=true
theorem Yfl.start (ps:Yaf) (M:DataW Value) (F:Int→DataW Value) (n:Nat):Yfl ps M F n (.map []):=⟨Maps.isMap_empty,fun s h=>by simp [Maps.has_eq] at h,fun s zd h=>by simp [Maps.has_eq] at h,Maps.tidy_empty,[],List.nodup_nil,rfl,fun s=>by simp [Maps.has_eq]⟩
theorem Ylp (hm:Maps.IsMap Kd) (s t:ByteArray) (d:DataW Value) (h:Maps.has Kd (lit t)=true):Maps.has (Kd.put (lit s) d) (lit t)=true:=by
 by_cases e:lit t=lit s
 ·rw [e];exact Maps.has_put_same hm (by simp [WideAt.IsKeyLit]) d
 ·rw [Maps.has_put_other e];exact h
theorem Yfl.put {ps:Yaf} {F:Int→DataW Value} {n:Nat} (h:Yfl ps M F n Kd) (s:ByteArray) (hs:(∃ p∈ps,p.1=s)∨Yke M F n s):Yfl ps M F n (Kd.put (lit s) (.held (.int .i64 2))):=by
 refine ⟨h.isMap.put _ _,fun t ht=>?_,fun t zd ht=>?_,h.tidy.put (by simp [WideAt.IsKeyLit]) _,?_⟩
 ·by_cases e:lit t=lit s
  ·rw [Yhg e];exact hs
  ·rw [Maps.has_put_other e] at ht;exact h.sound t ht
 ·by_cases e:lit t=lit s
  ·rw [e];exact Maps.atKey_put_same h.isMap (by simp [WideAt.IsKeyLit]) _ _
  ·rw [Maps.has_put_other e] at ht;rw [Maps.atKey_put_other e];exact h.val t zd ht
 ·obtain ⟨L,h1,h2,h3⟩:=h.keys
  have hm:∀ t,Maps.has (Kd.put (lit s) (.held (.int .i64 2))) (lit t)=true↔t=s∨Maps.has Kd (lit t)=true:=fun t=>by
   by_cases e:lit t=lit s
   ·rw [e,Maps.has_put_same h.isMap (by simp [WideAt.IsKeyLit])]
    simp [Yhg e]
   ·rw [Maps.has_put_other e]
    exact ⟨.inr,fun h=>h.resolve_left (fun e'=>e (by rw [e']))⟩
  rw [Maps.size_put h.tidy];by_cases hh:Maps.has Kd (lit s)=true
  ·rw [if_pos hh]
   exact ⟨L,h1,h2,fun t=>(h3 t).trans ⟨fun h=>(hm t).2 (.inr h),fun h=>((hm t).1 h).elim (fun e=>by rw [e];exact hh) id⟩⟩
  ·rw [if_neg hh]
   exact ⟨s :: L,List.nodup_cons.2 ⟨fun h=>hh ((h3 s).1 h),h1⟩,by simp [h2],fun t=>by rw [List.mem_cons,h3 t];exact (hm t).symm⟩
theorem Yrt (hm:Maps.IsMap Kd) (s:ByteArray) (d:DataW Value):Maps.has (Kd.put (lit s) d) (lit s)=true:=Maps.has_put_same hm (by simp [WideAt.IsKeyLit]) d
theorem Ykf {k:TypeId} (h:w.heap[b]? = some (.map #[] 0)):Yap w k b 0 (.map []):=by
 have:=World.ownsMap_made w prog k Yb0;obtain ⟨es,clock,h1,h2⟩:=this;rw [heap_alloc_new] at h1;simp only [Option.some.injEq,Obj.map.injEq] at h1;obtain ⟨rfl,rfl⟩:=h1;exact ⟨#[],0,h,h2⟩
def Yhh (ps:Yaf) (M:DataW Value) (F:Int→DataW Value) (n:Nat) (Kd:DataW Value):Prop:=
 Yfl ps M F n Kd∧(∀ p∈ps,Maps.has Kd (lit p.1)=true)∧(∀ s,Yke M F n s→Maps.has Kd (lit s)=true)
theorem Ygq (h:w.mapTurned w' b):(∀ q,q≠b→w'.heap[q]? = w.heap[q]?)∧w'.heap.size=w.heap.size∧Below 0 w w':=by
 obtain ⟨es,cl,es',cl',k1,k2⟩:=h;have hz:w'.heap.size=w.heap.size:=by rw [k2];simp [ChangeMaps.setBlock]
 exact ⟨fun q hq=>by rw [k2];exact ChangeMaps.heap_setBlock_other k1 _ hq,hz,by rw [k2];rfl,by rw [k2];rfl,by rw [k2];rfl,by omega,fun q hq=>by omega⟩
theorem Yx8 (cb mb k:Nat) (M:DataW Value) (F:Int→DataW Value) (key:ByteArray) (w:World) (hks:key.size≤1000) (hk:k≤1000) (Q:Nat→World→Prop) (ps:Yaf) (hlen:ps.length≤10000) (hps:∀ p∈ps,p.1.size≤1000)
 (KP:∀ W,Below w.heap.size w W→W.heap[w.heap.size]? = some (.map #[] 0)→Calls prog 111 #[.pointer (some ⟨cb,2,none⟩),.int .i64 (Yae key)] W fun e w'=>∃ g,e=.returned (.pointer (some ⟨g,0,none⟩))∧w'.heap[w.heap.size]? = some (.map #[] 0)∧w.heap.size<w'.heap.size∧Q g w')
 (hQ:∀ g w1,Q g w1→∃ turn v,Yh2 w1 g turn v ps∧g≠w.heap.size∧v.ownBlock≠some w.heap.size∧w1.cell? ⟨cb,5,none⟩=some (.map (some mb))∧cb<w.heap.size∧mb<w.heap.size∧Yap w1 3 mb k M∧Yia w1 M F ∧
  (∀ x u,(∀ zd,M.atKey (.int .i64 x) zd=.held u)→∀ tb last hb nH,u=.pointer (some ⟨tb,0,none⟩)→Yf6 w1 tb last hb→Yap w1 9 hb nH (F x)→tb≠w.heap.size∧hb≠w.heap.size)):
 Calls prog 293 #[.pointer (some ⟨cb,0,none⟩),.string key] w fun e w'=>∃ Kd g w1,e=.returned (.bool (Maps.has Kd (lit key) || decide (Maps.size Kd<4)))∧Yhh ps M F (Yae key) Kd∧Q g w1∧(∀ q,q<w1.heap.size→q≠w.heap.size→w'.heap[q]? = w1.heap[q]?)∧Below 0 w1 w':=by
 have KB:=fun W=>Yk2 key W (by omega)
 have HKP:=Yh KP
 have HQ:=Yh hQ
 have hmm:=@run_makeMap prog
 have HPS:=Yh hps
 generalize hbk:Yae key=n at KB HKP ⊢
 have HBK:=Yh hbk
 have hS:=Maps.string_keyed (P:=prog) underlying9
 have hI:=Maps.int_keyed (P:=prog) underlying3
 clear KP hQ hps hbk
 go_enter func293,ntmps293
 go_wp2_with (first
  | (go_at_call 112;refine (KB _).mono ?_;rintro e w' ⟨rfl,rfl⟩)
  | (go_at_call 111;go_must (
   refine (HKP.out _ ((Below.refl _ w).alloc (Nat.le_refl _) _) (heap_alloc_new w _)).mono ?_;rintro e w1 ⟨g,rfl,hn1,hz1,hq1⟩;have HQ1:=Yh hq1;obtain ⟨turn,v,hp,h1,h2,h3,h4,h5,h6,h7,h8⟩:=HQ.out g w1 hq1;obtain ⟨hpb,hown⟩:=hp;obtain ⟨ad,cp,rfl⟩:=Yjt hown;have HOW:=Yh hown;have cg:w1.cell? ⟨g,1,none⟩=some (.slice ad ps.length cp):=Yaa (j:=1) hpb rfl;have HF:Hid ((Value.slice ad ps.length cp).ownBlock≠some w.heap.size∧cb<w.heap.size∧mb<w.heap.size):=⟨h2,h4,h5⟩;have H3:=Yh h3;have H6:=Yh h6;have H7:=Yh h7;have H8:=Yh h8;have HN1:Hid (Yap w1 9 w.heap.size 0 (.map [])):=Ykf hn1;clear hpb hown h1 h2 h3 h4 h5 h6 h7 h8 hn1 hq1)))
 go_loopw [25] (fun i wr=>∃ (j nk:Nat) (Kd:DataW Value),j≤ps.length∧i=.int .i64 j∧Yap wr 9 w.heap.size nk Kd∧nk≤j∧Yfl ps M F n Kd∧(∀ p∈ps.take j,Maps.has Kd (lit p.1)=true)∧(∀ q,q<w1.heap.size→q≠w.heap.size→wr.heap[q]? = w1.heap[q]?)∧Below 0 w1 wr) (fun i _=>ps.length - (intOf i).toNat)
 case atStart=>exact ⟨0,0,.map [],by omega,rfl,HN1.out,by omega,Yfl.start _ _ _ _,by simp,fun _ _ _=>rfl,Below.refl _ _⟩
 case round=>
  obtain ⟨j,nk,Kd,hj,rfl,hmp,hnk,hkd,hcom,hfr,hbw⟩:=hrel;have HMP:=Yh hmp;have HKD:=Yh hkd;have HCO:=Yh hcom;have HFR:=Yh hfr;have HBW:=Yh hbw;have hzw:w.heap.size<wr.heap.size:=hmp.lt;have HOR:Hid (wr.ownsRow 0 43 2 (.slice ad ps.length cp) ps.length (Yad ps)):=Yda HOW.out (fun q hq=>hfr q (HOW.out.lt q hq).2 (fun e=>HF.out.1 (by rw [hq,e])));clear hmp hkd hcom hfr hbw cg hmm;by_cases hlt:j<ps.length
  ·have hlt':(j:Int)<(ps.length:Int):=by omega
   obtain ⟨g2,cap',he⟩:=Ybn HOR.out (by omega);simp only [Value.slice.injEq] at he;obtain ⟨rfl,-,rfl⟩:=he;obtain ⟨hc0,hc1⟩:=Ye2 ps j ps[j] (List.getElem?_eq_getElem hlt);have c0:=Yal HOR.out hc0;have c1:=Yal HOR.out hc1;have hpsz:ps[j].1.size≤1000:=HPS.out _ (List.getElem_mem hlt);have HMEM:Hid (ps[j]∈ps):=List.getElem_mem hlt;have HTK:Hid (ps.take (j+1)=ps.take j ++ [ps[j]]):=by show _=_;simp
   clear hc0 hc1;generalize ps[j]=pj at c0 c1 hpsz HMEM HTK;obtain ⟨pk,pv⟩:=pj;simp only at c0 c1 hpsz;go_wp2_with (first
    | (at_mapUpdate;go_must (
     refine wpList_mapUpdate_in _ rfl _ _ _ 357 rfl 9 363 hS underlying357 Yb0 w.heap.size nk Kd rfl ?hm (by unfold maxLen;omega) (.string pk) (.int .i64 2) (lit pk) rfl rfl (Yfk pk hpsz) (.held (.int .i64 2)) [] rfl ?_
     case hm=>exact HMP.out.kept (Below.heap_alloc _ _ _ hzw)
     intro w5 hm5 htu5;have HM5:=Yh hm5;have HT5:=Yh htu5;clear hm5 htu5)))
   obtain ⟨t1,t2,t3⟩:=Ygq HT5.out;refine ⟨⟨j+1,nk+1,_,by omega,by simp,HM5.out,by omega,HKD.out.put pk (.inl ⟨_,HMEM.out,rfl⟩),fun p hp=>?_,fun q h1 h2=>?_,?_⟩,by simp [intOf];omega⟩
   ·rw [HTK.out] at hp
    rcases List.mem_append.1 hp with h | h
    ·exact Ylp HKD.out.isMap pk p.1 _ (HCO.out p h)
    ·simp at h;subst h;exact Yrt HKD.out.isMap pk _
   ·rw [t1 q h2,Below.heap_alloc _ _ _ (by have:=HBW.out.size;omega)];exact HFR.out q h1 h2
   ·exact (HBW.out.alloc (Nat.zero_le _) _).trans t3
  ·obtain rfl:j=ps.length:=by omega
   have HCO2:Hid (∀ p∈ps,Maps.has Kd (lit p.1)=true):=fun p hp=>HCO.out p (by rw [List.take_length];exact hp)
   have hcbw:=HF.out.2.1;have hmbw:=HF.out.2.2;have h3r:wr.cell? ⟨cb,5,none⟩=some (.map (some mb)):=(World.cell?_of_block (HFR.out cb (by have:=HN1.out.lt;omega) (by omega))).trans H3.out;have HM:Hid (Yap wr 3 mb k M):=H6.out.kept (HFR.out mb (H6.out.lt) (by omega));have HTB:Hid (Yia wr M F):=H7.out.kept w.heap.size H8.out HFR.out;have hszM:Maps.size M≤k:=World.ownsMap.size_le HM.out;go_wp2_with (first
    | (at_range;refine wpList_range_own _ rfl _ 227 rfl 3 356 hI underlying227 Yb0 mb k M rfl HM.out ?_;intro w0 hrg0 hg0 hs0))
   go_frame;have hb0:Below wr.heap.size wr w0:=⟨hg0.os,hg0.tape,hg0.output,by omega,fun q hq=>hg0.block q hq (by simp)⟩;obtain ⟨wa,rfl⟩:∃ wa,wa=wr:=⟨_,rfl⟩;have HW0:=Yh hb0;have HMP0:Hid (Yap w0 9 w.heap.size nk Kd):=HMP.out.below hb0;have HRG0:=Yh hrg0;clear hg0 hs0 hb0 hrg0;go_loopw [10] (fun _ w2=>∃ left cnt nk Kd,w2.ranges prog 3 Yb0 mb wa.heap.size k M left cnt∧Yap w2 9 w.heap.size nk Kd∧nk+cnt*4000000000000≤6000000000000000∧Yfl ps M F n Kd∧(∀ p∈ps,Maps.has Kd (lit p.1)=true)∧(∀ (x:Int) s,Maps.has M (.int .i64 x)=true→left (.int .i64 x)=false→(∀ zd,(F x).atKey (lit s) zd=.held (.int .i64 2))→Yae s=n→Maps.has Kd (lit s)=true) ∧
    (∀ q,q<wa.heap.size→q≠w.heap.size→w2.heap[q]? = wa.heap[q]?)∧Below 0 wa w2) (fun _ w2=>w2.rangeLeft mb wa.heap.size)
   case atStart=>
    refine ⟨Maps.has M,Maps.size M,nk,Kd,HRG0.out,HMP0.out,by omega,HKD.out,HCO2.out,fun x s h1 h2=>?_,fun q h1 _=>HW0.out.block q h1,HW0.out.mono (Nat.zero_le _)⟩;rw [h1] at h2;cases h2
   case round=>
    obtain ⟨left,cnt,nk2,Kd2,hrg,hmp,hbd,hkd,hpg,hcm,hfr,hbw⟩:=hrel;have HRG:=Yh hrg;have HMP2:=Yh hmp;have HKD2:=Yh hkd;have HPG2:=Yh hpg;have HCM2:=Yh hcm;have HFR2:=Yh hfr;have HBW2:=Yh hbw;have hzb:=hbw.size;clear hmp hkd hpg hcm hfr hbw HRG0 HMP0 HW0;go_wp2_with (first
     | (at_next;refine wpList_next_ranges _ rfl _ rfl 3 hI Yb0 (Value.int .i64) (fun v:Value=>v) (fun key kl hkey=>by obtain ⟨x,rfl,_⟩:=Maps.keyOf_int_inv underlying3 hkey;exact ⟨x,rfl⟩) (fun v y hv=>⟨v,rfl⟩) mb wa.heap.size k M left cnt rfl HRG.out ?_ ?_))
    ·intro _ hl0
     have HAK:Hid (Yhh ps M F n Kd2):=⟨HKD2.out,HPG2.out,fun s ⟨x,h1,h2,h3⟩=>HCM2.out x s h1 (hl0 _) h2 h3⟩;obtain ⟨u,hlk,hu⟩:=HMP2.out.look hS underlying357 (z:=.int .i64 0) (Tryz.zeroValue363 _) (Yfk key hks);have hln:=fun ty=>World.ownsMap.len HMP2.out underlying357 ty
     have HE:Hid (∀ b,b=(Maps.has Kd2 (lit key) || decide (Maps.size Kd2<4))→∀ w',w'=wr→∃ Kd g' w1',Ending.returned (.bool b)=.returned (.bool (Maps.has Kd (lit key) || decide (Maps.size Kd<4)))∧Yhh ps M F n Kd∧Q g' w1'∧(∀ q,q<w1'.heap.size→q≠w.heap.size→w'.heap[q]? = w1'.heap[q]?)∧Below 0 w1' w'):=fun b hb w' hw'=>by
      subst hw';refine ⟨Kd2,g,w1,by rw [hb],HAK.out,HQ1.out,fun q h1 h2=>?_,HBW.out.trans HBW2.out⟩;exact (HFR2.out q (by have:=HBW.out.size;omega) h2).trans (HFR.out q h1 h2)
     cases hh:Maps.has Kd2 (lit key) with
     | true=>
      rw [HKD2.out.val key _ hh] at hu;simp only [DataW.held.injEq] at hu;subst hu;rw [hh] at HE;clear hh hln;go_wp2;go_ret;exact HE.out true (by simp) _ rfl
     | false=>
      rw [Maps.atKey_of_not_has hh] at hu;simp only [DataW.held.injEq] at hu;subst hu;rw [hh] at HE;clear hh;by_cases h4:Maps.size Kd2<4
      ·have h4':((Maps.size Kd2:Nat):Int)<4:=by omega
       go_wp2;go_ret;exact HE.out true (by simp [h4]) _ rfl
      ·have h4':¬((Maps.size Kd2:Nat):Int)<4:=by omega
       go_wp2;go_ret;obtain ⟨Kd',g',w1',e1,e2,e3,e4,e5⟩:=HE.out false (by simp [h4]) _ rfl;exact ⟨Kd',e1,e2,g',w1',e3,e4,e5⟩
    ·intro x c kl yd yp w3 cnt1 hkey hlx hv hat hrg1 hlt1 hg1 hs1 hen
     obtain ⟨x',hx',rfl,hwf⟩:=Maps.keyOf_int_inv underlying3 hkey;simp only [Value.int.injEq,true_and] at hx';subst hx';simp only [Yb0,Option.some.injEq,Prod.mk.injEq] at hv;obtain ⟨rfl,rfl⟩:=hv;obtain ⟨tb,last,hb,nH,rfl,htx,hmh,hnH,hty⟩:=HTB.out x c hat;have hhas:Maps.has M (.int .i64 x)=true:=Maps.has_true_of_atKey hat;obtain ⟨ntb,nhb⟩:=(fun (t1:Yf6 w1 tb last hb) (t2:Yap w1 9 hb nH (F x))=>H8.out x _ hat tb last hb nH rfl t1 t2) (by
      obtain ⟨tb',last',hb',nH',e1,e2,e3,_,_⟩:=H7.out x _ hat
      cases e1;obtain ⟨n1,n2⟩:=H8.out x _ hat tb last' hb' nH' rfl e2 e3;have:=(HFR.out tb (Yaj e2) n1).symm.trans htx;exact this) (by
      obtain ⟨tb',last',hb',nH',e1,e2,e3,_,_⟩:=H7.out x _ hat
      cases e1;obtain ⟨n1,n2⟩:=H8.out x _ hat tb last' hb' nH' rfl e2 e3;have h9:=((HFR.out tb (Yaj e2) n1).trans e2).symm.trans htx;simp only [Option.some.injEq,Obj.cells.injEq,Array.mk.injEq,List.cons.injEq,Value.map.injEq,and_true] at h9;obtain ⟨_,rfl⟩:=h9;exact hmh.kept (HFR.out _ e3.lt n2).symm)
     have hk3:∀ q,q<wa.heap.size→q≠w.heap.size→w3.heap[q]? = wa.heap[q]?:=fun q h1 h2=>(hg1.block q (by omega) (by simp;omega)).trans (HFR2.out q h1 h2)
     have htx3:w3.heap[tb]? = some (.cells #[.int .i64 last,.map (some hb)] 359 (0,0)):=(hk3 tb (Yaj htx) ntb).trans htx;have ct:w3.cell? ⟨tb,1,none⟩=some (.map (some hb)):=Yaa (j:=1) htx3 rfl;have hmh3:Yap w3 9 hb nH (F x):=hmh.kept (hk3 hb hmh.lt nhb);have hkb3:Yap w3 9 w.heap.size nk2 Kd2:=HMP2.out.kept (hg1.block w.heap.size (by omega) (by simp;omega));have HMH3:=Yh hmh3;have HKB3:=Yh hkb3;have HR3:=Yh hrg1;have HK3:=Yh hk3;have HB3:Hid (Below 0 wa w3):=HBW2.out.trans ⟨hg1.os,hg1.tape,hg1.output,hg1.size,fun q hq=>by omega⟩;have HTY:=Yh hty;have HLTS:Hid (w.heap.size<wa.heap.size∧mb<wa.heap.size∧hb<wa.heap.size∧hb≠w.heap.size∧wa.heap.size<w3.heap.size):=⟨by omega,HM.out.lt,hmh.lt,nhb,by have:=hrg1.lt;omega⟩;have hszF:Maps.size (F x)≤nH:=World.ownsMap.size_le hmh3;have HME:=Yh hlt1;clear hat hrg1 hg1 hs1 htx htx3 hmh hk3 hmh3 hkb3 hty hkey hrg hwf;go_wp2_with (first
      | (at_range;refine wpList_range_own _ rfl _ 357 rfl 9 363 hS underlying357 Yb0 hb nH (F x) rfl HMH3.out ?_;intro w4 hrg4 hg4 hs4))
     go_frame;have hb4:Below w3.heap.size w3 w4:=⟨hg4.os,hg4.tape,hg4.output,by omega,fun q hq=>hg4.block q hq (by simp)⟩;obtain ⟨wb,rfl⟩:∃ wb,wb=wr:=⟨_,rfl⟩;have HRI0:=Yh hrg4;have HRO0:Hid (w4.ranges prog 3 Yb0 mb wa.heap.size k M (fun z=>left z && !z.sameKey (.int .i64 x)) cnt1):=HR3.out.kept hg4 (by simp) (by simp);have HK40:Hid (∀ q,q<wa.heap.size→q≠w.heap.size→w4.heap[q]? = wa.heap[q]?):=fun q h1 h2=>(hb4.block q (by have:=HLTS.out.2.2.2.2;omega)).trans (HK3.out q h1 h2)
     have HB40:Hid (Below 0 wa w4):=HB3.out.trans (hb4.mono (Nat.zero_le _));have HKB40:Hid (Yap w4 9 w.heap.size nk2 Kd2):=HKB3.out.below hb4;clear hg4 hs4 hb4 hrg4;go_loopw [11] (fun _ wr=>∃ leftI cntI nk Kd,wr.ranges prog 9 Yb0 hb w3.heap.size nH (F x) leftI cntI∧wr.ranges prog 3 Yb0 mb wa.heap.size k M (fun z=>left z && !z.sameKey (.int .i64 x)) cnt1∧Yap wr 9 w.heap.size nk Kd∧nk+cntI+cnt1*4000000000000≤6000000000000000∧Yfl ps M F n Kd∧(∀ p∈ps,Maps.has Kd (lit p.1)=true) ∧
      (∀ (z:Int) s,Maps.has M (.int .i64 z)=true→left (.int .i64 z)=false→(∀ zd,(F z).atKey (lit s) zd=.held (.int .i64 2))→Yae s=n→Maps.has Kd (lit s)=true)∧(∀ s,leftI (lit s)=false→(∀ zd,(F x).atKey (lit s) zd=.held (.int .i64 2))→Yae s=n→Maps.has Kd (lit s)=true) ∧
      (∀ q,q<wa.heap.size→q≠w.heap.size→wr.heap[q]? = wa.heap[q]?)∧Below 0 wa wr) (fun _ wr=>wr.rangeLeft hb w3.heap.size)
     case atStart=>
      refine ⟨Maps.has (F x),Maps.size (F x),nk2,Kd2,HRI0.out,HRO0.out,HKB40.out,by have:=HME.out;omega,HKD2.out,HPG2.out,HCM2.out,fun s h1 h2=>?_,HK40.out,HB40.out⟩;rw [Maps.has_true_of_atKey h2] at h1;cases h1
     case round=>
      obtain ⟨leftI,cntI,nk3,Kd3,hri,hro,hmp,hbd3,hkd,hpg,hcm,hci,hfr,hbw⟩:=hrel;have HRI:=Yh hri;have HRO:=Yh hro;have HMP3:=Yh hmp;have HKD3:=Yh hkd;have HPG3:=Yh hpg;have HCM3:=Yh hcm;have HCI3:=Yh hci;have HFR3:=Yh hfr;have HBW3:=Yh hbw;clear hri hro hmp hkd hpg hcm hci hfr hbw HRI0 HRO0 HK40 HB40 HKB40;go_wp2_with (first
       | (at_next;refine wpList_next_ranges _ rfl _ rfl 9 hS Yb0 Value.string (fun v:Value=>v) (fun key kl hkey=>Maps.keyOf_string_inv underlying9 hkey) (fun v y hv=>⟨v,rfl⟩) hb w3.heap.size nH (F x) leftI cntI rfl HRI.out ?_ ?_))
      ·intro _ hl0
       go_wp2;refine ⟨⟨_,cnt1,nk3,Kd3,HRO.out,HMP3.out,by omega,HKD3.out,HPG3.out,fun z s h1 h2 h3 h4=>?_,HFR3.out,HBW3.out⟩,?_⟩
       ·by_cases hz:z=x
        ·subst hz;exact HCI3.out s (hl0 _) h3 h4
        ·rw [Maps.sameKey_ne (by simpa using hz)] at h2
         simp at h2;exact HCM3.out z s h1 h2 h3 h4
       ·rw [HRO.out.left_eq,HRG.out.left_eq];exact HME.out
      ·intro s c kl yd yp w5 cnt2 hkey hls hv hat hri5 hlt2 hg5 hs5 hen5
       obtain ⟨rfl,hkey'⟩:=Yx7 hkey;simp only [Yb0,Option.some.injEq,Prod.mk.injEq] at hv;obtain ⟨rfl,rfl⟩:=hv;obtain ⟨h,rfl,hss⟩:=HTY.out s c hat;obtain ⟨l1,l2,l3,l4,l5⟩:=HLTS.out;have hro5:w5.ranges prog 3 Yb0 mb wa.heap.size k M (fun z=>left z && !z.sameKey (.int .i64 x)) cnt1:=HRO.out.kept hg5 (by simp;omega) (by simp;omega);have hmp5:Yap w5 9 w.heap.size nk3 Kd3:=HMP3.out.kept (hg5.block _ HMP3.out.lt (by simp;omega));have hfr5:∀ q,q<wa.heap.size→q≠w.heap.size→w5.heap[q]? = wa.heap[q]?:=fun q h1 h2=>(hg5.block q (by have:=HBW3.out.size;omega) (by simp;omega)).trans (HFR3.out q h1 h2)
       have HB5:Hid (Below 0 wa w5):=HBW3.out.trans ⟨hg5.os,hg5.tape,hg5.output,hg5.size,fun q hq=>by omega⟩;have HRI5:=Yh hri5;have HRO5:=Yh hro5;have HMP5:=Yh hmp5;have HFR5:=Yh hfr5;have HAT:=Yh hat;have HLT2:=Yh hlt2;have HLE:Hid (∀ t,(leftI (lit t) && !(lit t).sameKey (lit s))=false→leftI (lit t)=false∨t=s):=fun t ht=>by
        by_cases e:lit t=lit s
        ·exact .inr (Yhg e)
        ·rw [Maps.sameKey_ne e] at ht;simp at ht;exact .inl ht
       have HSAME:Hid (h≠2∨Yae s≠n→((∃ leftI cntI nk Kd,w5.ranges prog 9 Yb0 hb w3.heap.size nH (F x) leftI cntI∧w5.ranges prog 3 Yb0 mb wa.heap.size k M (fun z=>left z && !z.sameKey (.int .i64 x)) cnt1∧Yap w5 9 w.heap.size nk Kd∧nk+cntI+cnt1*4000000000000≤6000000000000000∧Yfl ps M F n Kd∧(∀ p∈ps,Maps.has Kd (lit p.1)=true) ∧
        (∀ (z:Int) s,Maps.has M (.int .i64 z)=true→left (.int .i64 z)=false→(∀ zd,(F z).atKey (lit s) zd=.held (.int .i64 2))→Yae s=n→Maps.has Kd (lit s)=true)∧(∀ s,leftI (lit s)=false→(∀ zd,(F x).atKey (lit s) zd=.held (.int .i64 2))→Yae s=n→Maps.has Kd (lit s)=true) ∧
        (∀ q,q<wa.heap.size→q≠w.heap.size→w5.heap[q]? = wa.heap[q]?)∧Below 0 wa w5)∧w5.rangeLeft hb w3.heap.size<wr.rangeLeft hb w3.heap.size)):=fun hno=>by
        refine ⟨⟨_,cnt2,nk3,Kd3,HRI5.out,HRO5.out,HMP5.out,by have:=HLT2.out;omega,HKD3.out,HPG3.out,HCM3.out,fun t h1 h2 h3=>?_,HFR5.out,HB5.out⟩,by rw [HRI5.out.left_eq,HRI.out.left_eq];exact HLT2.out⟩
        rcases HLE.out t h1 with e | e
        ·exact HCI3.out t e h2 h3
        ·subst e
         have:=(h2 (.held undef)).symm.trans (HAT.out (.held undef));simp only [DataW.held.injEq,Value.int.injEq,true_and] at this;rcases hno with hno | hno
         ·exact absurd this.symm hno
         ·exact absurd h3 hno
       have KB2:=fun W=>Yk2 s W (by omega)
       clear hat hri5 hlt2 hg5 hs5 hro5 hmp5 hfr5 hkey l1 l2 l3 l4 l5;by_cases h2:h=2
       ·subst h2
        by_cases hbs:Yae s=n
        ·have HHK:Hid (Yke M F n s):=⟨x,hhas,HAT.out,hbs⟩
         rw [hbs] at KB2;clear HSAME;go_wp2_with (first
          | (go_at_call 112;refine (KB2 _).mono ?_;rintro e w' ⟨rfl,rfl⟩)
          | (at_mapUpdate;go_must (
           refine wpList_mapUpdate_in _ rfl _ _ _ 357 rfl 9 363 hS underlying357 Yb0 w.heap.size nk3 Kd3 rfl HMP5.out (by unfold maxLen;omega) (.string s) (.int .i64 2) (lit s) rfl rfl hkey' (.held (.int .i64 2)) [] rfl ?_;intro w6 hm6 htu6;have HM6:=Yh hm6;have HT6:=Yh htu6;clear hm6 htu6;go_frame)))
         obtain ⟨t1,t2,t3⟩:=Ygq HT6.out;have hgr:=HT6.out.grown;obtain ⟨l1,l2,l3,l4,l5⟩:=HLTS.out;refine ⟨⟨_,cnt2,nk3+1,_,HRI5.out.kept hgr (by simp;omega) (by simp;omega),HRO5.out.kept hgr (by simp;omega) (by simp;omega),HM6.out,by have:=HLT2.out;omega,HKD3.out.put s (.inr HHK.out),fun p hp=>Ylp HKD3.out.isMap s p.1 _ (HPG3.out p hp),fun z t h1 h2 h3 h4=>Ylp HKD3.out.isMap s t _ (HCM3.out z t h1 h2 h3 h4),fun t h1 h2 h3=>?_,fun q h1 h2=>(t1 q h2).trans (HFR5.out q h1 h2),HB5.out.trans t3⟩,?_⟩
         ·rcases HLE.out t h1 with e | e
          ·exact Ylp HKD3.out.isMap s t _ (HCI3.out t e h2 h3)
          ·subst e;exact Yrt HKD3.out.isMap t _
         ·rw [(HRI5.out.kept hgr (by simp;omega) (by simp;omega)).left_eq,HRI.out.left_eq];exact HLT2.out
        ·have hbs':((Yae s:Int) == (n:Int))=false:=by simp;omega
         go_wp2_with (first
          | (go_at_call 112;refine (KB2 _).mono ?_;rintro e w' ⟨rfl,rfl⟩))
         exact HSAME.out (.inr hbs)
       ·have h2':(h == 2)=false:=by simpa using h2
        go_wp2;exact HSAME.out (.inl h2)
def Yru (M:DataW Value) (f:Int→Int) (t:Int) (b:Bool) (key:ByteArray) (w:World) (e:Ending) (w':World):Prop:=
 ∃ m,(Ya8 b key=0→Yi4 M f t (fun _=>false) m)∧e=.returned (.int .i64 (if Ya8 b key=0 then (if m=2 then 8 else 0) else Ya8 b key))∧Below w.heap.size w w'
theorem Yx9 (cb mb k:Nat) (M:DataW Value) (t:Int) (key:ByteArray) (b:Bool) (f:Int→Int) (w:World) (ht:Yax t) (hks:key.size≤140737488355328) (hc:w.cell? ⟨cb,5,none⟩=some (.map (some mb))) (hM:Yap w 3 mb k M) (ho:(b=true∧∃ tb,Yf7 M t tb)∨(b=false∧Yhf M t)) (hH:key.size≤8→Yh9 w M key f):
 Calls prog 279 #[.pointer (some ⟨cb,0,none⟩),.int .i64 t,.string key] w (Yru M f t b key w):=by
 have KN:=Yrn cb mb k M t key b w ht hks hc hM ho
 by_cases hz:Ya8 b key=0
 ·have hk8:key.size≤8:=by
   unfold Ya8 at hz;split at hz
   ·omega
   ·split at hz
    ·omega
    ·rename_i h;omega
  have KH:=Yrk cb mb k M t key f w (by omega) hc hM (hH hk8);rw [hz] at KN;have HZ:=Yh hz;have HKH:=Yh KH;clear KH hM ho hH hz;go_enter func279,ntmps279;go_wp2_with (first
   | (go_at_call 291;refine KN.mono ?_;rintro e w' ⟨rfl,rfl⟩)
   | (go_at_call 292;go_must (refine HKH.out.mono ?_;rintro e w1 ⟨m,rfl,hmo,hb1⟩;have HMO:=Yh hmo;have HB1:=Yh hb1;clear hmo hb1)))
  all_goals
   go_ret;refine ⟨m,fun _=>HMO.out,?_,HB1.out⟩;rw [HZ.out];simp_all
 ·have hz':(Ya8 b key == 0)=false:=by simpa using hz
  have HZ:=Yh hz;have HE:Hid (∀ e w',e=.returned (.int .i64 (Ya8 b key))→w'=w→Yru M f t b key w e w'):=fun e w' he hw'=>⟨0,fun h=>absurd h HZ.out,by rw [if_neg HZ.out];exact he,by rw [hw'];exact Below.refl _ _⟩
  generalize Ya8 b key=er at KN hz' HE;clear hM ho hH hz HZ;go_enter func279,ntmps279;go_wp2_with (first
   | (go_at_call 291;refine KN.mono ?_;rintro e w' ⟨rfl,rfl⟩))
  go_ret;exact HE.out _ _ rfl rfl
def Yi5 (M:DataW Value) (f:Int→Int) (t:Int) (b:Bool) (key val:ByteArray) (acts:Int) (RA:World→Bool→World→Prop) (w:World) (e:Ending) (w':World):Prop:=
 (Ya8 b key≠0∧e=.returned (.int .i64 (Ya8 b key))∧Below w.heap.size w w') ∨
 (Ya8 b key=0∧12<val.size∧e=.returned (.int .i64 7)∧Below w.heap.size w w') ∨
 (Ya8 b key=0∧val.size≤12∧∃ m,Yi4 M f t (fun _=>false) m ∧
  (
   (1≤m∧e=.returned (.int .i64 8)∧Below w.heap.size w w')∨(m=0∧120≤acts∧e=.returned (.int .i64 10)∧Below w.heap.size w w') ∨
   (m=0∧acts<120∧∃ w0 r,Below w.heap.size w w0∧e=.returned (.int .i64 (if r=true then 0 else 10))∧RA w0 r w')))
theorem Yya (cb mb k:Nat) (M:DataW Value) (t:Int) (key val:ByteArray) (is:Bool) (acts:Int) (b:Bool) (f:Int→Int) (RA:World→Bool→World→Prop) (w:World) (ht:Yax t) (hks:key.size≤140737488355328) (hvs:val.size≤140737488355328) (hcw:cb<w.heap.size) (hc:w.cell? ⟨cb,5,none⟩=some (.map (some mb))) (ha:w.cell? ⟨cb,7,none⟩=some (.int .i64 acts)) (hM:Yap w 3 mb k M) (ho:(b=true∧∃ tb,Yf7 M t tb)∨(b=false∧Yhf M t)) (hH:key.size≤8→Yh9 w M key f)
 (KR:key.size≤8→∀ w0,Below w.heap.size w w0→Calls prog 293 #[.pointer (some ⟨cb,0,none⟩),.string key] w0 fun e w'=>∃ r,e=.returned (.bool r)∧RA w0 r w'):
 Calls prog 280 #[.pointer (some ⟨cb,0,none⟩),.int .i64 t,.string key,.agg #[.bool is,.string val]] w (Yi5 M f t b key val acts RA w):=by
 have hB:∀ o,Below w.heap.size w (w.alloc o):=fun o=>(Below.refl _ w).alloc (Nat.le_refl _) _
 have KN:=fun o=>Yrn cb mb k M t key b (w.alloc o) ht hks (((hB o).cell (p:=⟨cb,5,none⟩) hcw).trans hc) (hM.below (hB o)) ho
 by_cases hz:Ya8 b key=0
 ·have hk8:key.size≤8:=by
   unfold Ya8 at hz;split at hz
   ·omega
   ·split at hz
    ·omega
    ·rename_i h;omega
  have HZ:=Yh hz;rw [hz] at KN;clear hz;by_cases hv:12<val.size
  ·have hv':(12:Int)<(val.size:Int):=by omega
   have HE:Hid (∀ w',Below w.heap.size w w'→Yi5 M f t b key val acts RA w (.returned (.int .i64 7)) w'):=fun w' h=>.inr (.inl ⟨HZ.out,hv,rfl,h⟩)
   clear hM ho hH KR hv;go_enter func280,ntmps280;go_wp2_with (first
    | (go_at_call 291;refine (KN _).mono ?_;rintro e w' ⟨rfl,rfl⟩))
   go_ret;exact HE.out _ (hB _)
  ·have hv':¬(12:Int)<(val.size:Int):=by omega
   have KH:=fun o=>Yrk cb mb k M t key f (w.alloc o) (by omega) (((hB o).cell (p:=⟨cb,5,none⟩) hcw).trans hc) (hM.below (hB o)) ((hH hk8).below (hB o))
   have HKH:=Yh KH;have HKR:=Yh (KR hk8);have HA:Hid (∀ m,Yi4 M f t (fun _=>false) m→∀ e w',((1≤m∧e=.returned (.int .i64 8)∧Below w.heap.size w w')∨(m=0∧120≤acts∧e=.returned (.int .i64 10)∧Below w.heap.size w w')∨(m=0∧acts<120∧∃ w0 r,Below w.heap.size w w0∧e=.returned (.int .i64 (if r=true then 0 else 10))∧RA w0 r w'))→Yi5 M f t b key val acts RA w e w'):=fun m hm e w' h=>.inr (.inr ⟨HZ.out,by omega,m,hm,h⟩)
   generalize hWA:Yi5 M f t b key val acts RA w=WA at HA ⊢;clear hM ho hH KR KH hv hWA;go_enter func280,ntmps280;go_wp2_with (first
    | (go_at_call 291;refine (KN _).mono ?_;rintro e w' ⟨rfl,rfl⟩)
    | (go_at_call 292;go_must (
     refine (HKH.out _).mono ?_;rintro e w1 ⟨m,rfl,hmo,hb1⟩;have HMO:=Yh hmo;have hb1':Below w.heap.size w w1:=(hB _).trans (hb1.mono (by simp));have HB1:=Yh hb1';have ha1:w1.cell? ⟨cb,7,none⟩=some (.int .i64 acts):=(hb1'.cell (p:=⟨cb,7,none⟩) hcw).trans ha;have KS:=Ynr cb acts w1 ha1;clear hmo hb1 hb1'))
    | (go_at_call 285;refine KS.mono ?_;rintro e w' ⟨rfl,rfl⟩)
    | (go_at_call 293;go_must (
     refine (HKR.out w1 HB1.out).mono ?_;rintro e w2 ⟨r,rfl,hra⟩;have HRA:=Yh hra;clear hra)))
   all_goals
    obtain ⟨m0,m2,-,-⟩:=HMO.out;first
     | (refine HA.out m HMO.out _ _ (.inl ⟨?_,rfl,HB1.out⟩);omega)
     | (refine HA.out m HMO.out _ _ (.inr (.inl ⟨?_,?_,rfl,HB1.out⟩)) <;> omega)
     | (
      refine HA.out m HMO.out _ _ (.inr (.inr ⟨?_,?_,w1,r,HB1.out,?_,HRA.out⟩))
      ·omega
      ·omega
      ·cases r
       ·first | rfl | (exfalso;simp_all;omega) | (exfalso;simp_all)
       ·first | rfl | (exfalso;simp_all;omega) | (exfalso;simp_all))
 ·have hz':(Ya8 b key == 0)=false:=by simpa using hz
  have HE:Hid (∀ w',Below w.heap.size w w'→Yi5 M f t b key val acts RA w (.returned (.int .i64 (Ya8 b key))) w'):=fun w' h=>.inl ⟨hz,rfl,h⟩
  generalize Ya8 b key=er at KN hz' HE;generalize hWA:Yi5 M f t b key val acts RA w=WA at HE ⊢;clear hM ho hH KR hz hWA;go_enter func280,ntmps280;go_wp2_with (first
   | (go_at_call 291;refine (KN _).mono ?_;rintro e w' ⟨rfl,rfl⟩))
  exact HE.out _ (hB _)
def Tag:Type:=Fin 8⊕Nat⊕Nat⊕Int⊕Int⊕Int
def Tag.kind:Tag:=Sum.inl (0:Fin 8)
def Tag.vol:Tag:=Sum.inl (1:Fin 8)
def Tag.disk:Tag:=Sum.inl (2:Fin 8)
def Tag.uns:Tag:=Sum.inl (3:Fin 8)
def Tag.mp:Tag:=Sum.inl (4:Fin 8)
def Tag.mc:Tag:=Sum.inl (5:Fin 8)
def Tag.mo:Tag:=Sum.inl (6:Fin 8)
def Tag.made:Tag:=Sum.inl (7:Fin 8)
def Tag.page (n:Nat):Tag:=(Sum.inr (Sum.inl n):Fin 8⊕Nat⊕Nat⊕Int⊕Int⊕Int)
def Tag.row (n:Nat):Tag:=(Sum.inr (Sum.inr (Sum.inl n)):Fin 8⊕Nat⊕Nat⊕Int⊕Int⊕Int)
def Tag.tx (n:Int):Tag:=(Sum.inr (Sum.inr (Sum.inr (Sum.inl n))):Fin 8⊕Nat⊕Nat⊕Int⊕Int⊕Int)
def Tag.held (n:Int):Tag:=(Sum.inr (Sum.inr (Sum.inr (Sum.inr (Sum.inl n)))):Fin 8⊕Nat⊕Nat⊕Int⊕Int⊕Int)
def Tag.madeOf (n:Int):Tag:=(Sum.inr (Sum.inr (Sum.inr (Sum.inr (Sum.inr n)))):Fin 8⊕Nat⊕Nat⊕Int⊕Int⊕Int)
theorem Tag.elim {motive:Tag→Prop} (kind:motive .kind) (vol:motive .vol) (disk:motive .disk) (uns:motive .uns) (mp:motive .mp) (mc:motive .mc) (mo:motive .mo) (made:motive .made) (page:∀ n,motive (.page n)) (row:∀ n,motive (.row n)) (tx:∀ n,motive (.tx n)) (held:∀ n,motive (.held n)) (madeOf:∀ n,motive (.madeOf n)) (tag:Tag):motive tag:=
 match tag with
 | Sum.inl 0=>kind
 | Sum.inl 1=>vol
 | Sum.inl 2=>disk
 | Sum.inl 3=>uns
 | Sum.inl 4=>mp
 | Sum.inl 5=>mc
 | Sum.inl 6=>mo
 | Sum.inl 7=>made
 | Sum.inr (Sum.inl n)=>page n
 | Sum.inr (Sum.inr (Sum.inl n))=>row n
 | Sum.inr (Sum.inr (Sum.inr (Sum.inl n)))=>tx n
 | Sum.inr (Sum.inr (Sum.inr (Sum.inr (Sum.inl n))))=>held n
 | Sum.inr (Sum.inr (Sum.inr (Sum.inr (Sum.inr n))))=>madeOf n
@[simp] theorem Y5z:(Tag.kind=Tag.vol)=False:=eq_false (fun h=>by injection h with h;cases h)
@[simp] theorem Y50:(Tag.kind=Tag.disk)=False:=eq_false (fun h=>by injection h with h;cases h)
@[simp] theorem Y51:(Tag.kind=Tag.uns)=False:=eq_false (fun h=>by injection h with h;cases h)
@[simp] theorem Y52:(Tag.kind=Tag.mp)=False:=eq_false (fun h=>by injection h with h;cases h)
@[simp] theorem Y53:(Tag.kind=Tag.mc)=False:=eq_false (fun h=>by injection h with h;cases h)
@[simp] theorem Y54:(Tag.kind=Tag.mo)=False:=eq_false (fun h=>by injection h with h;cases h)
@[simp] theorem Y55:(Tag.kind=Tag.made)=False:=eq_false (fun h=>by injection h with h;cases h)
@[simp] theorem Y56:(Tag.vol=Tag.kind)=False:=eq_false (fun h=>by injection h with h;cases h)
@[simp] theorem Y57:(Tag.vol=Tag.disk)=False:=eq_false (fun h=>by injection h with h;cases h)
@[simp] theorem Y58:(Tag.vol=Tag.uns)=False:=eq_false (fun h=>by injection h with h;cases h)
@[simp] theorem Y59:(Tag.vol=Tag.mp)=False:=eq_false (fun h=>by injection h with h;cases h)
@[simp] theorem Y6a:(Tag.vol=Tag.mc)=False:=eq_false (fun h=>by injection h with h;cases h)
@[simp] theorem Y6b:(Tag.vol=Tag.mo)=False:=eq_false (fun h=>by injection h with h;cases h)
@[simp] theorem Y6c:(Tag.vol=Tag.made)=False:=eq_false (fun h=>by injection h with h;cases h)
@[simp] theorem Y6d:(Tag.disk=Tag.kind)=False:=eq_false (fun h=>by injection h with h;cases h)
@[simp] theorem Y6e:(Tag.disk=Tag.vol)=False:=eq_false (fun h=>by injection h with h;cases h)
@[simp] theorem Y6f:(Tag.disk=Tag.uns)=False:=eq_false (fun h=>by injection h with h;cases h)
@[simp] theorem Y6g:(Tag.disk=Tag.mp)=False:=eq_false (fun h=>by injection h with h;cases h)
@[simp] theorem Y6h:(Tag.disk=Tag.mc)=False:=eq_false (fun h=>by injection h with h;cases h)
@[simp] theorem Y6i:(Tag.disk=Tag.mo)=False:=eq_false (fun h=>by injection h with h;cases h)
@[simp] theorem Y6j:(Tag.disk=Tag.made)=False:=eq_false (fun h=>by injection h with h;cases h)
@[simp] theorem Y6k:(Tag.uns=Tag.kind)=False:=eq_false (fun h=>by injection h with h;cases h)
@[simp] theorem Y6l:(Tag.uns=Tag.vol)=False:=eq_false (fun h=>by injection h with h;cases h)
@[simp] theorem Y6m:(Tag.uns=Tag.disk)=False:=eq_false (fun h=>by injection h with h;cases h)
@[simp] theorem Y6n:(Tag.uns=Tag.mp)=False:=eq_false (fun h=>by injection h with h;cases h)
@[simp] theorem Y6o:(Tag.uns=Tag.mc)=False:=eq_false (fun h=>by injection h with h;cases h)
@[simp] theorem Y6p:(Tag.uns=Tag.mo)=False:=eq_false (fun h=>by injection h with h;cases h)
@[simp] theorem Y6q:(Tag.uns=Tag.made)=False:=eq_false (fun h=>by injection h with h;cases h)
@[simp] theorem Y6r:(Tag.mp=Tag.kind)=False:=eq_false (fun h=>by injection h with h;cases h)
@[simp] theorem Y6s:(Tag.mp=Tag.vol)=False:=eq_false (fun h=>by injection h with h;cases h)
@[simp] theorem Y6t:(Tag.mp=Tag.disk)=False:=eq_false (fun h=>by injection h with h;cases h)
@[simp] theorem Y6u:(Tag.mp=Tag.uns)=False:=eq_false (fun h=>by injection h with h;cases h)
@[simp] theorem Y6v:(Tag.mp=Tag.mc)=False:=eq_false (fun h=>by injection h with h;cases h)
@[simp] theorem Y6w:(Tag.mp=Tag.mo)=False:=eq_false (fun h=>by injection h with h;cases h)
@[simp] theorem Y6x:(Tag.mp=Tag.made)=False:=eq_false (fun h=>by injection h with h;cases h)
@[simp] theorem Y6y:(Tag.mc=Tag.kind)=False:=eq_false (fun h=>by injection h with h;cases h)
@[simp] theorem Y6z:(Tag.mc=Tag.vol)=False:=eq_false (fun h=>by injection h with h;cases h)
@[simp] theorem Y60:(Tag.mc=Tag.disk)=False:=eq_false (fun h=>by injection h with h;cases h)
@[simp] theorem Y61:(Tag.mc=Tag.uns)=False:=eq_false (fun h=>by injection h with h;cases h)
@[simp] theorem Y62:(Tag.mc=Tag.mp)=False:=eq_false (fun h=>by injection h with h;cases h)
@[simp] theorem Y63:(Tag.mc=Tag.mo)=False:=eq_false (fun h=>by injection h with h;cases h)
@[simp] theorem Y64:(Tag.mc=Tag.made)=False:=eq_false (fun h=>by injection h with h;cases h)
@[simp] theorem Y65:(Tag.mo=Tag.kind)=False:=eq_false (fun h=>by injection h with h;cases h)
@[simp] theorem Y66:(Tag.mo=Tag.vol)=False:=eq_false (fun h=>by injection h with h;cases h)
@[simp] theorem Y67:(Tag.mo=Tag.disk)=False:=eq_false (fun h=>by injection h with h;cases h)
@[simp] theorem Y68:(Tag.mo=Tag.uns)=False:=eq_false (fun h=>by injection h with h;cases h)
@[simp] theorem Y69:(Tag.mo=Tag.mp)=False:=eq_false (fun h=>by injection h with h;cases h)
@[simp] theorem Y7a:(Tag.mo=Tag.mc)=False:=eq_false (fun h=>by injection h with h;cases h)
@[simp] theorem Y7b:(Tag.mo=Tag.made)=False:=eq_false (fun h=>by injection h with h;cases h)
@[simp] theorem Y7c:(Tag.made=Tag.kind)=False:=eq_false (fun h=>by injection h with h;cases h)
@[simp] theorem Y7d:(Tag.made=Tag.vol)=False:=eq_false (fun h=>by injection h with h;cases h)
@[simp] theorem Y7e:(Tag.made=Tag.disk)=False:=eq_false (fun h=>by injection h with h;cases h)
@[simp] theorem Y7f:(Tag.made=Tag.uns)=False:=eq_false (fun h=>by injection h with h;cases h)
@[simp] theorem Y7g:(Tag.made=Tag.mp)=False:=eq_false (fun h=>by injection h with h;cases h)
@[simp] theorem Y7h:(Tag.made=Tag.mc)=False:=eq_false (fun h=>by injection h with h;cases h)
@[simp] theorem Y7i:(Tag.made=Tag.mo)=False:=eq_false (fun h=>by injection h with h;cases h)
@[simp] theorem Y7j (n:Nat):(Tag.kind=Tag.page n)=False:=eq_false (fun h=>by injection h)
@[simp] theorem Y7k (n:Nat):(Tag.page n=Tag.kind)=False:=eq_false (fun h=>by injection h)
@[simp] theorem Y7l (n:Nat):(Tag.kind=Tag.row n)=False:=eq_false (fun h=>by injection h)
@[simp] theorem Y7m (n:Nat):(Tag.row n=Tag.kind)=False:=eq_false (fun h=>by injection h)
@[simp] theorem Y7n (n:Int):(Tag.kind=Tag.tx n)=False:=eq_false (fun h=>by injection h)
@[simp] theorem Y7o (n:Int):(Tag.tx n=Tag.kind)=False:=eq_false (fun h=>by injection h)
@[simp] theorem Y7p (n:Int):(Tag.kind=Tag.held n)=False:=eq_false (fun h=>by injection h)
@[simp] theorem Y7q (n:Int):(Tag.held n=Tag.kind)=False:=eq_false (fun h=>by injection h)
@[simp] theorem Y7r (n:Int):(Tag.kind=Tag.madeOf n)=False:=eq_false (fun h=>by injection h)
@[simp] theorem Y7s (n:Int):(Tag.madeOf n=Tag.kind)=False:=eq_false (fun h=>by injection h)
@[simp] theorem Y7t (n:Nat):(Tag.vol=Tag.page n)=False:=eq_false (fun h=>by injection h)
@[simp] theorem Y7u (n:Nat):(Tag.page n=Tag.vol)=False:=eq_false (fun h=>by injection h)
@[simp] theorem Y7v (n:Nat):(Tag.vol=Tag.row n)=False:=eq_false (fun h=>by injection h)
@[simp] theorem Y7w (n:Nat):(Tag.row n=Tag.vol)=False:=eq_false (fun h=>by injection h)
@[simp] theorem Y7x (n:Int):(Tag.vol=Tag.tx n)=False:=eq_false (fun h=>by injection h)
@[simp] theorem Y7y (n:Int):(Tag.tx n=Tag.vol)=False:=eq_false (fun h=>by injection h)
@[simp] theorem Y7z (n:Int):(Tag.vol=Tag.held n)=False:=eq_false (fun h=>by injection h)
@[simp] theorem Y70 (n:Int):(Tag.held n=Tag.vol)=False:=eq_false (fun h=>by injection h)
@[simp] theorem Y71 (n:Int):(Tag.vol=Tag.madeOf n)=False:=eq_false (fun h=>by injection h)
@[simp] theorem Y72 (n:Int):(Tag.madeOf n=Tag.vol)=False:=eq_false (fun h=>by injection h)
@[simp] theorem Y73 (n:Nat):(Tag.disk=Tag.page n)=False:=eq_false (fun h=>by injection h)
@[simp] theorem Y74 (n:Nat):(Tag.page n=Tag.disk)=False:=eq_false (fun h=>by injection h)
@[simp] theorem Y75 (n:Nat):(Tag.disk=Tag.row n)=False:=eq_false (fun h=>by injection h)
@[simp] theorem Y76 (n:Nat):(Tag.row n=Tag.disk)=False:=eq_false (fun h=>by injection h)
@[simp] theorem Y77 (n:Int):(Tag.disk=Tag.tx n)=False:=eq_false (fun h=>by injection h)
@[simp] theorem Y78 (n:Int):(Tag.tx n=Tag.disk)=False:=eq_false (fun h=>by injection h)
@[simp] theorem Y79 (n:Int):(Tag.disk=Tag.held n)=False:=eq_false (fun h=>by injection h)
@[simp] theorem Y8a (n:Int):(Tag.held n=Tag.disk)=False:=eq_false (fun h=>by injection h)
@[simp] theorem Y8b (n:Int):(Tag.disk=Tag.madeOf n)=False:=eq_false (fun h=>by injection h)
@[simp] theorem Y8c (n:Int):(Tag.madeOf n=Tag.disk)=False:=eq_false (fun h=>by injection h)
@[simp] theorem Y8d (n:Nat):(Tag.uns=Tag.page n)=False:=eq_false (fun h=>by injection h)
@[simp] theorem Y8e (n:Nat):(Tag.page n=Tag.uns)=False:=eq_false (fun h=>by injection h)
@[simp] theorem Y8f (n:Nat):(Tag.uns=Tag.row n)=False:=eq_false (fun h=>by injection h)
@[simp] theorem Y8g (n:Nat):(Tag.row n=Tag.uns)=False:=eq_false (fun h=>by injection h)
@[simp] theorem Y8h (n:Int):(Tag.uns=Tag.tx n)=False:=eq_false (fun h=>by injection h)
@[simp] theorem Y8i (n:Int):(Tag.tx n=Tag.uns)=False:=eq_false (fun h=>by injection h)
@[simp] theorem Y8j (n:Int):(Tag.uns=Tag.held n)=False:=eq_false (fun h=>by injection h)
@[simp] theorem Y8k (n:Int):(Tag.held n=Tag.uns)=False:=eq_false (fun h=>by injection h)
@[simp] theorem Y8l (n:Int):(Tag.uns=Tag.madeOf n)=False:=eq_false (fun h=>by injection h)
@[simp] theorem Y8m (n:Int):(Tag.madeOf n=Tag.uns)=False:=eq_false (fun h=>by injection h)
@[simp] theorem Y8n (n:Nat):(Tag.mp=Tag.page n)=False:=eq_false (fun h=>by injection h)
@[simp] theorem Y8o (n:Nat):(Tag.page n=Tag.mp)=False:=eq_false (fun h=>by injection h)
@[simp] theorem Y8p (n:Nat):(Tag.mp=Tag.row n)=False:=eq_false (fun h=>by injection h)
@[simp] theorem Y8q (n:Nat):(Tag.row n=Tag.mp)=False:=eq_false (fun h=>by injection h)
@[simp] theorem Y8r (n:Int):(Tag.mp=Tag.tx n)=False:=eq_false (fun h=>by injection h)
@[simp] theorem Y8s (n:Int):(Tag.tx n=Tag.mp)=False:=eq_false (fun h=>by injection h)
@[simp] theorem Y8t (n:Int):(Tag.mp=Tag.held n)=False:=eq_false (fun h=>by injection h)
@[simp] theorem Y8u (n:Int):(Tag.held n=Tag.mp)=False:=eq_false (fun h=>by injection h)
@[simp] theorem Y8v (n:Int):(Tag.mp=Tag.madeOf n)=False:=eq_false (fun h=>by injection h)
@[simp] theorem Y8w (n:Int):(Tag.madeOf n=Tag.mp)=False:=eq_false (fun h=>by injection h)
@[simp] theorem Y8x (n:Nat):(Tag.mc=Tag.page n)=False:=eq_false (fun h=>by injection h)
@[simp] theorem Y8y (n:Nat):(Tag.page n=Tag.mc)=False:=eq_false (fun h=>by injection h)
@[simp] theorem Y8z (n:Nat):(Tag.mc=Tag.row n)=False:=eq_false (fun h=>by injection h)
@[simp] theorem Y80 (n:Nat):(Tag.row n=Tag.mc)=False:=eq_false (fun h=>by injection h)
@[simp] theorem Y81 (n:Int):(Tag.mc=Tag.tx n)=False:=eq_false (fun h=>by injection h)
@[simp] theorem Y82 (n:Int):(Tag.tx n=Tag.mc)=False:=eq_false (fun h=>by injection h)
@[simp] theorem Y83 (n:Int):(Tag.mc=Tag.held n)=False:=eq_false (fun h=>by injection h)
@[simp] theorem Y84 (n:Int):(Tag.held n=Tag.mc)=False:=eq_false (fun h=>by injection h)
@[simp] theorem Y85 (n:Int):(Tag.mc=Tag.madeOf n)=False:=eq_false (fun h=>by injection h)
@[simp] theorem Y86 (n:Int):(Tag.madeOf n=Tag.mc)=False:=eq_false (fun h=>by injection h)
@[simp] theorem Y87 (n:Nat):(Tag.mo=Tag.page n)=False:=eq_false (fun h=>by injection h)
@[simp] theorem Y88 (n:Nat):(Tag.page n=Tag.mo)=False:=eq_false (fun h=>by injection h)
@[simp] theorem Y89 (n:Nat):(Tag.mo=Tag.row n)=False:=eq_false (fun h=>by injection h)
@[simp] theorem Y9a (n:Nat):(Tag.row n=Tag.mo)=False:=eq_false (fun h=>by injection h)
@[simp] theorem Y9b (n:Int):(Tag.mo=Tag.tx n)=False:=eq_false (fun h=>by injection h)
@[simp] theorem Y9c (n:Int):(Tag.tx n=Tag.mo)=False:=eq_false (fun h=>by injection h)
@[simp] theorem Y9d (n:Int):(Tag.mo=Tag.held n)=False:=eq_false (fun h=>by injection h)
@[simp] theorem Y9e (n:Int):(Tag.held n=Tag.mo)=False:=eq_false (fun h=>by injection h)
@[simp] theorem Y9f (n:Int):(Tag.mo=Tag.madeOf n)=False:=eq_false (fun h=>by injection h)
@[simp] theorem Y9g (n:Int):(Tag.madeOf n=Tag.mo)=False:=eq_false (fun h=>by injection h)
@[simp] theorem Y9h (n:Nat):(Tag.made=Tag.page n)=False:=eq_false (fun h=>by injection h)
@[simp] theorem Y9i (n:Nat):(Tag.page n=Tag.made)=False:=eq_false (fun h=>by injection h)
@[simp] theorem Y9j (n:Nat):(Tag.made=Tag.row n)=False:=eq_false (fun h=>by injection h)
@[simp] theorem Y9k (n:Nat):(Tag.row n=Tag.made)=False:=eq_false (fun h=>by injection h)
@[simp] theorem Y9l (n:Int):(Tag.made=Tag.tx n)=False:=eq_false (fun h=>by injection h)
@[simp] theorem Y9m (n:Int):(Tag.tx n=Tag.made)=False:=eq_false (fun h=>by injection h)
@[simp] theorem Y9n (n:Int):(Tag.made=Tag.held n)=False:=eq_false (fun h=>by injection h)
@[simp] theorem Y9o (n:Int):(Tag.held n=Tag.made)=False:=eq_false (fun h=>by injection h)
@[simp] theorem Y9p (n:Int):(Tag.made=Tag.madeOf n)=False:=eq_false (fun h=>by injection h)
@[simp] theorem Y9q (n:Int):(Tag.madeOf n=Tag.made)=False:=eq_false (fun h=>by injection h)
@[simp] theorem Y9r (n:Nat) (m:Nat):(Tag.page n=Tag.row m)=False:=eq_false (fun h=>by have h':(Sum.inr (Sum.inl n):Fin 8⊕Nat⊕Nat⊕Int⊕Int⊕Int)=Sum.inr (Sum.inr (Sum.inl m)):=h;simp at h')
@[simp] theorem Y9s (n:Nat) (m:Int):(Tag.page n=Tag.tx m)=False:=eq_false (fun h=>by have h':(Sum.inr (Sum.inl n):Fin 8⊕Nat⊕Nat⊕Int⊕Int⊕Int)=Sum.inr (Sum.inr (Sum.inr (Sum.inl m))):=h;simp at h')
@[simp] theorem Y9t (n:Nat) (m:Int):(Tag.page n=Tag.held m)=False:=eq_false (fun h=>by have h':(Sum.inr (Sum.inl n):Fin 8⊕Nat⊕Nat⊕Int⊕Int⊕Int)=Sum.inr (Sum.inr (Sum.inr (Sum.inr (Sum.inl m)))):=h;simp at h')
@[simp] theorem Y9u (n:Nat) (m:Int):(Tag.page n=Tag.madeOf m)=False:=eq_false (fun h=>by have h':(Sum.inr (Sum.inl n):Fin 8⊕Nat⊕Nat⊕Int⊕Int⊕Int)=Sum.inr (Sum.inr (Sum.inr (Sum.inr (Sum.inr m)))):=h;simp at h')
@[simp] theorem Y9v (n:Nat) (m:Nat):(Tag.row n=Tag.page m)=False:=eq_false (fun h=>by have h':(Sum.inr (Sum.inr (Sum.inl n)):Fin 8⊕Nat⊕Nat⊕Int⊕Int⊕Int)=Sum.inr (Sum.inl m):=h;simp at h')
@[simp] theorem Y9w (n:Nat) (m:Int):(Tag.row n=Tag.tx m)=False:=eq_false (fun h=>by have h':(Sum.inr (Sum.inr (Sum.inl n)):Fin 8⊕Nat⊕Nat⊕Int⊕Int⊕Int)=Sum.inr (Sum.inr (Sum.inr (Sum.inl m))):=h;simp at h')
@[simp] theorem Y9x (n:Nat) (m:Int):(Tag.row n=Tag.held m)=False:=eq_false (fun h=>by have h':(Sum.inr (Sum.inr (Sum.inl n)):Fin 8⊕Nat⊕Nat⊕Int⊕Int⊕Int)=Sum.inr (Sum.inr (Sum.inr (Sum.inr (Sum.inl m)))):=h;simp at h')
@[simp] theorem Y9y (n:Nat) (m:Int):(Tag.row n=Tag.madeOf m)=False:=eq_false (fun h=>by have h':(Sum.inr (Sum.inr (Sum.inl n)):Fin 8⊕Nat⊕Nat⊕Int⊕Int⊕Int)=Sum.inr (Sum.inr (Sum.inr (Sum.inr (Sum.inr m)))):=h;simp at h')
@[simp] theorem Y9z (n:Int) (m:Nat):(Tag.tx n=Tag.page m)=False:=eq_false (fun h=>by have h':(Sum.inr (Sum.inr (Sum.inr (Sum.inl n))):Fin 8⊕Nat⊕Nat⊕Int⊕Int⊕Int)=Sum.inr (Sum.inl m):=h;simp at h')
@[simp] theorem Y90 (n:Int) (m:Nat):(Tag.tx n=Tag.row m)=False:=eq_false (fun h=>by have h':(Sum.inr (Sum.inr (Sum.inr (Sum.inl n))):Fin 8⊕Nat⊕Nat⊕Int⊕Int⊕Int)=Sum.inr (Sum.inr (Sum.inl m)):=h;simp at h')
@[simp] theorem Y91 (n:Int) (m:Int):(Tag.tx n=Tag.held m)=False:=eq_false (fun h=>by have h':(Sum.inr (Sum.inr (Sum.inr (Sum.inl n))):Fin 8⊕Nat⊕Nat⊕Int⊕Int⊕Int)=Sum.inr (Sum.inr (Sum.inr (Sum.inr (Sum.inl m)))):=h;simp at h')
@[simp] theorem Y92 (n:Int) (m:Int):(Tag.tx n=Tag.madeOf m)=False:=eq_false (fun h=>by have h':(Sum.inr (Sum.inr (Sum.inr (Sum.inl n))):Fin 8⊕Nat⊕Nat⊕Int⊕Int⊕Int)=Sum.inr (Sum.inr (Sum.inr (Sum.inr (Sum.inr m)))):=h;simp at h')
@[simp] theorem Y93 (n:Int) (m:Nat):(Tag.held n=Tag.page m)=False:=eq_false (fun h=>by have h':(Sum.inr (Sum.inr (Sum.inr (Sum.inr (Sum.inl n)))):Fin 8⊕Nat⊕Nat⊕Int⊕Int⊕Int)=Sum.inr (Sum.inl m):=h;simp at h')
@[simp] theorem Y94 (n:Int) (m:Nat):(Tag.held n=Tag.row m)=False:=eq_false (fun h=>by have h':(Sum.inr (Sum.inr (Sum.inr (Sum.inr (Sum.inl n)))):Fin 8⊕Nat⊕Nat⊕Int⊕Int⊕Int)=Sum.inr (Sum.inr (Sum.inl m)):=h;simp at h')
@[simp] theorem Y95 (n:Int) (m:Int):(Tag.held n=Tag.tx m)=False:=eq_false (fun h=>by have h':(Sum.inr (Sum.inr (Sum.inr (Sum.inr (Sum.inl n)))):Fin 8⊕Nat⊕Nat⊕Int⊕Int⊕Int)=Sum.inr (Sum.inr (Sum.inr (Sum.inl m))):=h;simp at h')
@[simp] theorem Y96 (n:Int) (m:Int):(Tag.held n=Tag.madeOf m)=False:=eq_false (fun h=>by have h':(Sum.inr (Sum.inr (Sum.inr (Sum.inr (Sum.inl n)))):Fin 8⊕Nat⊕Nat⊕Int⊕Int⊕Int)=Sum.inr (Sum.inr (Sum.inr (Sum.inr (Sum.inr m)))):=h;simp at h')
@[simp] theorem Y97 (n:Int) (m:Nat):(Tag.madeOf n=Tag.page m)=False:=eq_false (fun h=>by have h':(Sum.inr (Sum.inr (Sum.inr (Sum.inr (Sum.inr n)))):Fin 8⊕Nat⊕Nat⊕Int⊕Int⊕Int)=Sum.inr (Sum.inl m):=h;simp at h')
@[simp] theorem Y98 (n:Int) (m:Nat):(Tag.madeOf n=Tag.row m)=False:=eq_false (fun h=>by have h':(Sum.inr (Sum.inr (Sum.inr (Sum.inr (Sum.inr n)))):Fin 8⊕Nat⊕Nat⊕Int⊕Int⊕Int)=Sum.inr (Sum.inr (Sum.inl m)):=h;simp at h')
@[simp] theorem Y99 (n:Int) (m:Int):(Tag.madeOf n=Tag.tx m)=False:=eq_false (fun h=>by have h':(Sum.inr (Sum.inr (Sum.inr (Sum.inr (Sum.inr n)))):Fin 8⊕Nat⊕Nat⊕Int⊕Int⊕Int)=Sum.inr (Sum.inr (Sum.inr (Sum.inl m))):=h;simp at h')
@[simp] theorem Yaaa (n:Int) (m:Int):(Tag.madeOf n=Tag.held m)=False:=eq_false (fun h=>by have h':(Sum.inr (Sum.inr (Sum.inr (Sum.inr (Sum.inr n)))):Fin 8⊕Nat⊕Nat⊕Int⊕Int⊕Int)=Sum.inr (Sum.inr (Sum.inr (Sum.inr (Sum.inl m)))):=h;simp at h')
@[simp] theorem Yaab (n m:Nat):(Tag.page n=Tag.page m)=(n=m):=propext ⟨(fun h=>by have h':(Sum.inr (Sum.inl n):Fin 8⊕Nat⊕Nat⊕Int⊕Int⊕Int)=Sum.inr (Sum.inl m):=h;simpa using h'),fun h=>by rw [h]⟩
@[simp] theorem Yaac (n m:Nat):(Tag.row n=Tag.row m)=(n=m):=propext ⟨(fun h=>by have h':(Sum.inr (Sum.inr (Sum.inl n)):Fin 8⊕Nat⊕Nat⊕Int⊕Int⊕Int)=Sum.inr (Sum.inr (Sum.inl m)):=h;simpa using h'),fun h=>by rw [h]⟩
@[simp] theorem Yaad (n m:Int):(Tag.tx n=Tag.tx m)=(n=m):=propext ⟨(fun h=>by have h':(Sum.inr (Sum.inr (Sum.inr (Sum.inl n))):Fin 8⊕Nat⊕Nat⊕Int⊕Int⊕Int)=Sum.inr (Sum.inr (Sum.inr (Sum.inl m))):=h;simpa using h'),fun h=>by rw [h]⟩
@[simp] theorem Yaae (n m:Int):(Tag.held n=Tag.held m)=(n=m):=propext ⟨(fun h=>by have h':(Sum.inr (Sum.inr (Sum.inr (Sum.inr (Sum.inl n)))):Fin 8⊕Nat⊕Nat⊕Int⊕Int⊕Int)=Sum.inr (Sum.inr (Sum.inr (Sum.inr (Sum.inl m)))):=h;simpa using h'),fun h=>by rw [h]⟩
@[simp] theorem Yaaf (n m:Int):(Tag.madeOf n=Tag.madeOf m)=(n=m):=propext ⟨(fun h=>by have h':(Sum.inr (Sum.inr (Sum.inr (Sum.inr (Sum.inr n)))):Fin 8⊕Nat⊕Nat⊕Int⊕Int⊕Int)=Sum.inr (Sum.inr (Sum.inr (Sum.inr (Sum.inr m)))):=h;simpa using h'),fun h=>by rw [h]⟩
structure PgV where
 g:Nat
 turn:Nat
 v:Value
structure TxE where
 (tb hb nH:Nat)
 last:Nat
 H:DataW Value
structure Ybh where
 (b n:Nat)
 M:DataW Value
structure Sv where
 (kb vb db:Nat)
 ty:TypeId
 (start count turn:Int)
 (len begun acts:Nat)
 D:Array Value
 ws:List (Nat×List Value)
 v:Value
 (mp mc mo:Ybh)
 made:Option Ybh
 pgs:Nat→Option PgV
 cont:Nat→Yaf
 tx:Int→Option TxE
 mt:Int→Option Ybh
 /-- the log's entries,each with its count -/
 log:List (Yac×Int)
 /-- the copies of the pages on the disk -/
 cp:Nat→Ybq×Ybq
def Sv.cells (s:Sv):Array Value:=
 #[.pointer (some ⟨s.vb,0,none⟩),.int .i64 (s.len:Int),.pointer (some ⟨s.vb,0,none⟩),.map (some s.mp.b),.map (some s.mc.b),.map (some s.mo.b),.int .i64 (s.begun:Int),.int .i64 (s.acts:Int)] ++ (match s.made with | none=>#[] | some m=>#[.map (some m.b)])
def Sv.blk (s:Sv) (tag:Tag):Option Nat:=
 match tag with
 | Sum.inl 0=>some s.kb
 | Sum.inl 1=>some s.vb
 | Sum.inl 2=>some s.db
 | Sum.inl 3=>s.v.ownBlock
 | Sum.inl 4=>some s.mp.b
 | Sum.inl 5=>some s.mc.b
 | Sum.inl 6=>some s.mo.b
 | Sum.inl 7=>s.made.map (·.b)
 | Sum.inr (Sum.inl n)=>(s.pgs n).map (·.g)
 | Sum.inr (Sum.inr (Sum.inl n))=>(s.pgs n).bind (·.v.ownBlock)
 | Sum.inr (Sum.inr (Sum.inr (Sum.inl n)))=>(s.tx n).map (·.tb)
 | Sum.inr (Sum.inr (Sum.inr (Sum.inr (Sum.inl n))))=>(s.tx n).map (·.hb)
 | Sum.inr (Sum.inr (Sum.inr (Sum.inr (Sum.inr n))))=>(s.mt n).map (·.b)
@[simp] theorem Yaag (s:Sv):s.blk .kind=some s.kb:=rfl
@[simp] theorem Yaah (s:Sv):s.blk .vol=some s.vb:=rfl
@[simp] theorem Yaai (s:Sv):s.blk .disk=some s.db:=rfl
@[simp] theorem Yaaj (s:Sv):s.blk .uns=s.v.ownBlock:=rfl
@[simp] theorem Yaak (s:Sv):s.blk .mp=some s.mp.b:=rfl
@[simp] theorem Yaal (s:Sv):s.blk .mc=some s.mc.b:=rfl
@[simp] theorem Yaam (s:Sv):s.blk .mo=some s.mo.b:=rfl
@[simp] theorem Yaan (s:Sv):s.blk .made=s.made.map (·.b):=rfl
@[simp] theorem Yaao (s:Sv) (n:Nat):s.blk (.page n)=(s.pgs n).map (·.g):=rfl
@[simp] theorem Yaap (s:Sv) (n:Nat):s.blk (.row n)=(s.pgs n).bind (·.v.ownBlock):=rfl
@[simp] theorem Yaaq (s:Sv) (n:Int):s.blk (.tx n)=(s.tx n).map (·.tb):=rfl
@[simp] theorem Yaar (s:Sv) (n:Int):s.blk (.held n)=(s.tx n).map (·.hb):=rfl
@[simp] theorem Yaas (s:Sv) (n:Int):s.blk (.madeOf n)=(s.mt n).map (·.b):=rfl
def Sv.comp (s:Sv) (w:World) (tag:Tag):Prop:=
 match tag with
 | Sum.inl 0=>w.heap[s.kb]? = some (.cells s.cells s.ty (0,0))
 | Sum.inl 1=>w.heap[s.vb]? = some (.cells (Ybl s.db s.start s.count s.turn) 126 (0,0))
 | Sum.inl 2=>w.heap[s.db]? = some (.cells s.D 103 (0,0))
 | Sum.inl 3=>w.ownsRow (s.db+1) 143 65 s.v s.ws.length (Ycs s.ws)
 | Sum.inl 4=>Yap w 3 s.mp.b s.mp.n s.mp.M
 | Sum.inl 5=>Yap w 3 s.mc.b s.mc.n s.mc.M
 | Sum.inl 6=>Yap w 3 s.mo.b s.mo.n s.mo.M
 | Sum.inl 7=>∀ m,s.made=some m→Yap w 3 m.b m.n m.M
 | Sum.inr (Sum.inl n)=>∀ p,s.pgs n=some p→w.heap[p.g]? = some (.cells #[.int .i64 (p.turn:Int),p.v] 180 (0,0))
 | Sum.inr (Sum.inr (Sum.inl n))=>∀ p,s.pgs n=some p→w.ownsRow 0 43 2 p.v (s.cont n).length (Yad (s.cont n))
 | Sum.inr (Sum.inr (Sum.inr (Sum.inl n)))=>∀ x,s.tx n=some x→Yf6 w x.tb (x.last:Int) x.hb
 | Sum.inr (Sum.inr (Sum.inr (Sum.inr (Sum.inl n))))=>∀ x,s.tx n=some x→Yap w 9 x.hb x.nH x.H
 | Sum.inr (Sum.inr (Sum.inr (Sum.inr (Sum.inr n))))=>∀ m,s.mt n=some m→Yap w 9 m.b m.n m.M
theorem Ykg (s:Sv) {w w':World} (tag:Tag) (h:s.comp w tag) (hk:∀ k,s.blk tag=some k→w'.heap[k]? = w.heap[k]?):s.comp w' tag:=by
 cases tag using Tag.elim with
 | kind=>exact (hk _ rfl).trans h
 | vol=>exact (hk _ rfl).trans h
 | disk=>exact (hk _ rfl).trans h
 | uns=>exact Yda h hk
 | mp=>exact Yap.kept h (hk _ rfl)
 | mc=>exact Yap.kept h (hk _ rfl)
 | mo=>exact Yap.kept h (hk _ rfl)
 | made=>exact fun m hm=>(h m hm).kept (hk _ (by simp [hm]))
 | page n=>exact fun p hp=>(hk _ (by simp [hp])).trans (h p hp)
 | row n=>exact fun p hp=>Yda (h p hp) (fun g hg=>hk _ (by simp [hp,hg]))
 | tx t=>exact fun x hx=>(hk _ (by simp [hx])).trans (h x hx)
 | held t=>exact fun x hx=>(h x hx).kept (hk _ (by simp [hx]))
 | madeOf t=>exact fun x hx=>(h x hx).kept (hk _ (by simp [hx]))
structure Yan (w:World) (s:Sv):Prop where
 comp:∀ tag,s.comp w tag
 apart:∀ a b k,s.blk a=some k→s.blk b=some k→a=b
 lt:∀ tag k,s.blk tag=some k→k<w.heap.size
variable {s:Sv}
theorem Yan.step {s':Sv} (h:Yan w s) (T:Tag→Prop) (hsame:∀ tag,¬T tag→s'.blk tag=s.blk tag∧(∀ W,s.comp W tag→s'.comp W tag)) (hkeep:∀ tag k,¬T tag→s.blk tag=some k→w'.heap[k]? = w.heap[k]?)
 (htouch:∀ tag,T tag→s'.comp w' tag) (hblk:∀ tag k,T tag→s'.blk tag=some k→s.blk tag=some k∨(w.heap.size≤k∧k<w'.heap.size)) (hnew:∀ a b k,T a→T b→s'.blk a=some k→s'.blk b=some k→a=b) (hsize:w.heap.size≤w'.heap.size):Yan w' s':=by
 have hold:∀ a b k,T a→¬T b→s'.blk a=some k→s'.blk b=some k→a=b:=fun a b k ha hb h1 h2=>by
  rw [(hsame b hb).1] at h2;rcases hblk a k ha h1 with h3 | ⟨h3,_⟩
  ·exact h.apart a b k h3 h2
  ·exact absurd (h.lt b k h2) (by omega)
 refine ⟨fun tag=>?_,fun a b k h1 h2=>?_,fun tag k hk=>?_⟩
 ·by_cases ht:T tag
  ·exact htouch tag ht
  ·obtain ⟨h1,h2⟩:=hsame tag ht
   exact Ykg s' tag (h2 w (h.comp tag)) (fun k hk=>hkeep tag k ht (by rw [←h1];exact hk))
 ·by_cases ha:T a
  ·by_cases hb:T b
   ·exact hnew a b k ha hb h1 h2
   ·exact hold a b k ha hb h1 h2
  ·by_cases hb:T b
   ·exact (hold b a k hb ha h2 h1).symm
   ·rw [(hsame a ha).1] at h1
    rw [(hsame b hb).1] at h2;exact h.apart a b k h1 h2
 ·by_cases ht:T tag
  ·rcases hblk tag k ht hk with h1 | ⟨_,h1⟩
   ·have:=h.lt tag k h1;omega
   ·exact h1
  ·rw [(hsame tag ht).1] at hk
   have:=h.lt tag k hk;omega
theorem Yan.below (h:Yan w s) (hb:Below w.heap.size w w'):Yan w' s:=
 ⟨fun tag=>Ykg s tag (h.comp tag) (fun k hk=>hb.block k (h.lt tag k hk)),h.apart,fun tag k hk=>by have:=h.lt tag k hk;have:=hb.size;omega⟩
theorem Yan.ne (h:Yan w s) {a b:Tag} {x y:Nat} (ha:s.blk a=some x) (hb:s.blk b=some y) (hab:a≠b):x≠y:=fun e=>hab (h.apart a b x ha (by rw [e];exact hb))
end Go.Proofs.YtihbngfbcnojcaaGreat
