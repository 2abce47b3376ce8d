import Derived.Test.YtihbngfbcnojcaaGreatActC11
import Derived.RegionTactic
import Derived.ChangeAlike
import Derived.BigRegion
set_option maxRecDepth 100000
set_option maxHeartbeats 8000000
namespace Go.Proofs.YtihbngfbcnojcaaGreat
open Go.RowKit Tryz
variable {is:Bool} {key val:ByteArray} {t:Int} {a b0 b1 b2 b3 kb q:Nat} {s s':Sv} {k:TypeId} {W w w':World} {md:Ybh}
def Ygs (s s':Sv) (md:Ybh) (t:Int) (x:TxE) (key:ByteArray) (is:Bool) (val:ByteArray):Prop:=
 (∃ m,s.mt t=some m∧s'=putTab (granted (acted s) t x key 2) t m key is val∧Ya7 s' md) ∨
 (s.mt t=none∧∃ nb,s'=putTab (newTab (granted (acted s) t x key 2) md t nb) t ⟨nb,0,.map []⟩ key is val∧Ya7 s' ⟨md.b,md.n+1,md.M.put (.int .i64 t) (.held (.map (some nb)))⟩)
theorem Ya7.acted (h:Ya7 s md):Ya7 (acted s) md:=⟨h.made,h.have',h.lack,fun t m hm=>⟨(h.cells t m hm).1,by have:=(h.cells t m hm).2;show m.n≤s.acts+1;omega⟩,by have:=h.num;show md.n≤s.acts+1;omega⟩
theorem Ykk (h:Yan w s) (hm:Ya7 s md) (t:Int) (ht:Yax t):(Instr.lookup 231 (.map (some md.b)) (.int .i64 t) false).run prog w=.ok (.map ((s.mt t).map (·.b))) w:=by
 have hmd:Yap w 3 md.b md.n md.M:=h.comp .made md hm.made;obtain ⟨mv,hr,hv⟩:=hmd.look (Maps.int_keyed underlying3) underlying231 (z:=.map none) (Tryz.zeroValue138 _) (Yf5 t ht)
 cases hmt:s.mt t with
 | none=>
  rw [hm.lack t hmt] at hv;simp only [DataW.held.injEq] at hv;subst hv;exact hr
 | some m=>
  rw [hm.have' t m hmt] at hv;simp only [DataW.held.injEq] at hv;subst hv;exact hr
theorem Yyv (b:Nat) (w:World):(binOp .eql 138 (.map (some b)) (.map none)).run prog w=.ok (.bool false) w:=by kernel_rfl
theorem Yyw (w:World):(binOp .eql 138 (.map none) (.map none)).run prog w=.ok (.bool true) w:=by kernel_rfl
theorem Yyx (h:Yan w s) (g:Yar s) (hh:Yao s q) (hm:Ya7 s md) (hq:q≤1999999999999) (hac:s.acts<120) (t:Int) (ht:Yax t) (x:TxE) (hx:s.tx t=some x) (key:ByteArray) (hks:key.size≤8) (is:Bool) (val:ByteArray) (hvs:val.size≤12):
 Calls prog 282 #[.pointer (some ⟨s.kb,0,none⟩),.int .i64 t,.string key,.agg #[.bool is,.string val]] w fun e w'=>e=.returned (.tuple #[])∧∃ s',Ygs s s' md t x key is val∧Yab w w' s s'∧Yao s' (q+1):=by
 obtain ⟨W0,hW0⟩:∃ W0,w.alloc (.cells #[.bool is,.string val] 38)=W0:=⟨_,rfl⟩
 have hB0:Below w.heap.size w W0:=by rw [←hW0];exact (Below.refl _ w).alloc (Nat.le_refl _) _
 have hn0:W0.heap[w.heap.size]? = some (.cells #[.bool is,.string val] 38 (0,0)):=by rw [←hW0];exact heap_alloc_new w _
 have hz0:w.heap.size<W0.heap.size:=Yaj hn0
 have hL0:Yan W0 s:=h.below hB0
 have hG1:Yab W0 (W0.setCell ⟨s.kb,7,none⟩ (.int .i64 ((s.acts:Int)+1))) s (acted s):=Ynz hL0 g hac
 have hkw:s.kb<w.heap.size:=h.lt .kind _ rfl
 rw [←hW0,World.setCell_alloc_past _ _ _ _ hkw,hW0] at hG1
 have c7:w.cell? ⟨s.kb,7,none⟩=some (.int .i64 (s.acts:Int)):=Yaa (h.comp .kind) (Yb1 s (by omega) rfl)
 have f7:w.frozen? ⟨s.kb,7,none⟩=false:=Yah 7 (h.comp .kind)
 have hw7:wrap64 ((s.acts:Int)+1)=(s.acts:Int)+1:=by simp only [wrap64];omega
 have KG:Hid (∀ W,Yab W0 W s (acted s)→Calls prog 294 #[.pointer (some ⟨s.kb,0,none⟩),.int .i64 t,.string key,.int .i64 2] W fun e w'=>e=.returned (.tuple #[])∧Yab W0 w' s (granted (acted s) t x key 2)∧Yao (granted (acted s) t x key 2) (q+1)):=fun W hW=>(Ylr hW.lies hW.good hh (by omega) t ht x hx key hks 2 (by omega)).mono fun e w' ⟨h1,h2,h3⟩=>⟨h1,hW.trans h2,h3⟩
 have hm1:Ya7 (granted (acted s) t x key 2) md:=hm.acted.granted t x key 2
 have KU:Hid (∀ W sX mdX mX,Yab W0 W s sX→Ya7 sX mdX→sX.mt t=some mX→mX.n<sX.acts→sX.kb=s.kb→W.cell? ⟨s.kb,8,none⟩=some (.map (some mdX.b))∧s.kb<W.heap.size∧(Instr.lookup 231 (.map (some mdX.b)) (.int .i64 t) false).run prog W.drew=.ok (.map (some mX.b)) W.drew∧∃ w',(Instr.mapUpdate 138 (.map (some mX.b)) (.string key) (.agg #[.bool is,.string val])).run prog W.drew=.ok () w'∧Yab W0 w' s (putTab sX t mX key is val)∧Ya7 (putTab sX t mX key is val) mdX):=fun W sX mdX mX hW hmX hmt hn hk=>by
  have hWd:=hW.drew;have a1:=Yi9 hW.lies hmX;rw [hk] at a1;have a2:=Ykk hWd.lies hmX t ht;rw [hmt] at a2;obtain ⟨w',b1,b2,b3⟩:=Yyu hWd.lies hWd.good hmX t hmt hn key hks is val hvs;exact ⟨a1,hk▸hW.lies.lt .kind _ rfl,a2,w',b1,hWd.trans b2,b3⟩
 have HFIN:Hid (∀ w' s',Yab W0 w' s s'→Yab w w' s s'):=fun w' s' hg=>Yab.wrap h hB0 hg (fun _ _ _=>rfl) (Below.refl _ _)
 have HOWN:Hid (∀ w' s',Yab W0 w' s s'→w'.heap[w.heap.size]? = some (.cells #[.bool is,.string val] 38 (0,0))):=fun w' s' hg=>((hg.own h (Nat.le_refl _) hz0).1).trans hn0
 have HG1:=Yh hG1
 have HM1:=Yh hm1
 have hnum:=hm.num
 cases hmt:s.mt t with
 | some m=>
  have hmn:=(hm.cells t m hmt).2;have HD:Hid (∀ W,Yab W0 W s (granted (acted s) t x key 2)→W.cell? ⟨s.kb,8,none⟩=some (.map (some md.b))∧s.kb<W.heap.size∧(Instr.lookup 231 (.map (some md.b)) (.int .i64 t) false).run prog W=.ok (.map (some m.b)) W∧(Instr.lookup 231 (.map (some md.b)) (.int .i64 t) false).run prog W.drew=.ok (.map (some m.b)) W.drew∧∃ w',(Instr.mapUpdate 138 (.map (some m.b)) (.string key) (.agg #[.bool is,.string val])).run prog W.drew=.ok () w'∧(Yao (granted (acted s) t x key 2) (q+1)→∃ s',Ygs s s' md t x key is val∧Yab w w' s s'∧Yao s' (q+1))):=fun W hW=>by
   obtain ⟨a1,a2,a3,w',a4,a5,a6⟩:=KU.out W _ md m hW HM1.out hmt (by show m.n<s.acts+1;omega) rfl;have a7:=Ykk hW.lies HM1.out t ht;rw [show (granted (acted s) t x key 2).mt t=some m from hmt] at a7;exact ⟨a1,a2,a7,a3,w',a4,fun hh'=>⟨_,.inl ⟨m,hmt,rfl,a6⟩,HFIN.out _ _ a5,fun u y hy=>hh' u y hy⟩⟩
  have hnil:=Yyv m.b;generalize Ygs s=WB at HD ⊢;generalize granted (acted s) t x key 2=s1 at KG HD;generalize acted s=s0 at KG HG1;generalize (s.acts:Int)=ac at c7 hw7 HG1;generalize hkb:s.kb=kb at KG HD HG1 c7 f7 hkw ⊢;clear h g hh hx hG1 hL0 hn0 hz0 hB0 KU HM1 hm1 hm hmt hmn hnum;subst hW0;go_enter func282,ntmps282;go_wp2_with (first
   | (go_at_call 294;go_must (
    refine (KG.out _ HG1.out).mono ?_;rintro e w1 ⟨rfl,hg1,hh1⟩;have z0:w1.cell? ⟨w.heap.size,0,none⟩=some (.bool is):=Yaa (j:=0) (HOWN.out _ _ hg1) rfl;have z1:w1.cell? ⟨w.heap.size,1,none⟩=some (.string val):=Yaa (j:=1) (HOWN.out _ _ hg1) rfl;obtain ⟨c8,hkw1,l1,l2,w2,hup,hfin⟩:=HD.out w1 hg1;have HF:=Yh (hfin hh1);clear hg1 hh1 hfin)))
  go_wp2;go_region
  all_goals
   go_wp2;go_end0;exact ⟨rfl,HF.out⟩
 | none=>
  have HD:Hid (∀ W,Yab W0 W s (granted (acted s) t x key 2)→W.cell? ⟨s.kb,8,none⟩=some (.map (some md.b))∧s.kb<W.heap.size∧(Instr.lookup 231 (.map (some md.b)) (.int .i64 t) false).run prog W=.ok (.map none) W ∧
   ∃ w2,(Instr.mapUpdate 231 (.map (some md.b)) (.int .i64 t) (.map (some W.heap.size))).run prog (W.alloc (.map #[] 0))=.ok () w2∧w2.cell? ⟨w.heap.size,0,none⟩=some (.bool is)∧w2.cell? ⟨w.heap.size,1,none⟩=some (.string val)∧w2.cell? ⟨s.kb,8,none⟩=some (.map (some md.b))∧(Instr.lookup 231 (.map (some md.b)) (.int .i64 t) false).run prog w2.drew=.ok (.map (some W.heap.size)) w2.drew ∧
   ∃ w',(Instr.mapUpdate 138 (.map (some W.heap.size)) (.string key) (.agg #[.bool is,.string val])).run prog w2.drew=.ok () w'∧(Yao (granted (acted s) t x key 2) (q+1)→∃ s',Ygs s s' md t x key is val∧Yab w w' s s'∧Yao s' (q+1))):=fun W hW=>by
   have a1:=Yi9 hW.lies HM1.out
   have a7:=Ykk hW.lies HM1.out t ht
   rw [show (granted (acted s) t x key 2).mt t=none from hmt] at a7
   obtain ⟨w2,b1,b2,b3⟩:=Yyt hW.lies hW.good HM1.out t ht hmt (by show md.n<s.acts+1;omega)
   have hg2:=hW.trans b2
   obtain ⟨d1,d2,d3,w',d4,d5,d6⟩:=KU.out w2 _ _ ⟨W.heap.size,0,.map []⟩ hg2 b3 (by simp [newTab]) (by show 0<s.acts+1;omega) rfl
   exact ⟨a1,hW.lies.lt .kind _ rfl,a7,w2,b1,Yaa (j:=0) (HOWN.out _ _ hg2) rfl,Yaa (j:=1) (HOWN.out _ _ hg2) rfl,d1,d3,w',d4,fun hh'=>⟨_,.inr ⟨hmt,_,rfl,d6⟩,HFIN.out _ _ d5,fun u y hy=>hh' u y hy⟩⟩
  have hnil:=Yyw;have hmm:=@run_makeMap prog;generalize Ygs s=WB at HD ⊢;generalize granted (acted s) t x key 2=s1 at KG HD;generalize acted s=s0 at KG HG1;generalize (s.acts:Int)=ac at c7 hw7 HG1;generalize hkb:s.kb=kb at KG HD HG1 c7 f7 hkw ⊢;clear h g hh hx hG1 hL0 hn0 hz0 hB0 KU HM1 hm1 hm hmt hnum;subst hW0;go_enter func282,ntmps282;go_wp2_with (first
   | (go_at_call 294;go_must (
    refine (KG.out _ HG1.out).mono ?_;rintro e w1 ⟨rfl,hg1,hh1⟩;obtain ⟨c8,hkw1,l1,w2,hup1,z0,z1,d8,l2,w3,hup,hfin⟩:=HD.out w1 hg1;have HF:=Yh (hfin hh1);clear hg1 hh1 hfin)))
  go_wp2;go_region
  all_goals
   go_wp2;go_end0;exact ⟨rfl,HF.out⟩
def Yb5 (s:Sv) (md:Ybh) (t:Int):Sv:={ s with made:=some ⟨md.b,md.n,md.M.del (.int .i64 t)⟩,mt:=fun u=>if u=t then none else s.mt u }
theorem Yyy (hm:s.made=some md) (t:Int):(Yb5 s md t).cells=s.cells:=by
 unfold Sv.cells;rw [hm];rfl
theorem Yyz (h:Yan w s) (g:Yar s) (hm:Ya7 s md) (t:Int) (ht:Yax t) (ty:TypeId):
 ∃ w',(Builtin.delete_ #[231,3] ty #[.map (some md.b),.int .i64 t]).run prog w=.ok (.tuple #[]) w'∧Yab w w' s (Yb5 s md t)∧Ya7 (Yb5 s md t) ⟨md.b,md.n,md.M.del (.int .i64 t)⟩:=by
 have hmd:Yap w 3 md.b md.n md.M:=h.comp .made md hm.made
 have hbm:s.blk .made=some md.b:=by simp [hm.made]
 obtain ⟨w',hr,hm',htu⟩:=World.ownsMap.drop hmd (Maps.int_keyed underlying3) underlying231 (Yf5 t ht) ty
 obtain ⟨k1,k2,k3⟩:=Ygq htu
 have hB:∀ tag k,(Yb5 s md t).blk tag=some k→s.blk tag=some k:=fun tag k hk=>by
  cases tag using Tag.elim with
  | made=>rw [hbm];exact hk
  | madeOf u=>
   by_cases hu:u=t
   ·simp [Yb5,hu] at hk
   ·simp [Yb5,hu] at hk;simp;exact hk
  | _=>exact hk
 refine ⟨w',hr,⟨h.step (fun tag=>tag=.made∨tag=.madeOf t) ?_ ?_ ?_ ?_ ?_ (by omega),?_,fun tag k hk=>.inl (hB tag k hk),fun k _ hnt=>k1 k (fun e=>hnt .made (by rw [hbm,e])),k3⟩,?_⟩
 ·intro tag htg
  simp only [not_or] at htg
  cases tag using Tag.elim with
  | made=>exact absurd rfl htg.1
  | madeOf u=>have hu:u≠t:=fun e=>htg.2 (by rw [e]);exact ⟨by simp [Yb5,hu],fun W hW y hy=>by simp [Yb5,hu] at hy;exact hW y hy⟩
  | kind=>
   refine ⟨rfl,fun W hW=>?_⟩;show W.heap[s.kb]? = some (.cells (Yb5 s md t).cells s.ty (0,0));rw [Yyy hm.made];exact hW
  | _=>exact ⟨rfl,fun W hW=>hW⟩
 ·intro tag k htg hk
  simp only [not_or] at htg;exact k1 k (fun e=>htg.1 (h.apart tag .made k hk (by rw [hbm,e])))
 ·rintro tag (rfl | rfl)
  ·intro y hy
   simp [Yb5] at hy;subst hy;exact hm'
  ·intro y hy;simp [Yb5] at hy
 ·intro tag k _ hk
  exact .inl (hB tag k hk)
 ·intro a b k _ _ h1 h2
  exact h.apart a b k (hB a k h1) (hB b k h2)
 ·exact { dsz:=g.dsz,dv:=g.dv,fuse:=g.fuse,ok:=g.ok,wn:=g.wn,ln:=g.ln,db:=g.db,wb:=g.wb,have':=g.have',lack:=g.lack,room:=g.room,load:=g.load,chk:=g.chk,logd:=g.logd,wl:=g.wl,rise:=g.rise,st:=g.st,ct:=g.ct,ac:=g.ac,mon:=g.mon,mcn:=g.mcn,isOpen:=g.isOpen,notOpen:=g.notOpen }
 ·refine ⟨rfl,fun u m hu zd=>?_,fun u hu zd=>?_,fun u m hu=>?_,hm.num⟩
  ·by_cases hut:u=t
   ·subst hut;simp [Yb5] at hu
   ·simp [Yb5,hut] at hu
    exact (Maps.atKey_del_other (by simpa using hut) zd).trans (hm.have' u m hu zd)
  ·by_cases hut:u=t
   ·subst hut;exact Maps.atKey_del_same zd
   ·simp [Yb5,hut] at hu
    exact (Maps.atKey_del_other (by simpa using hut) zd).trans (hm.lack u hu zd)
  ·by_cases hut:u=t
   ·subst hut;simp [Yb5] at hu
   ·simp [Yb5,hut] at hu
    exact hm.cells u m hu
theorem Yn2 (h:Yan w s) (g:Yar s) (hh:Yao s q) (hm:Ya7 s md) (t:Int) (ht:Yax t):
 Calls prog 284 #[.pointer (some ⟨s.kb,0,none⟩),.int .i64 t] w fun e w'=>e=.returned (.tuple #[])∧Yab w w' s (Ybv (Yb5 s md t) t)∧Yao (Ybv (Yb5 s md t) t) q∧Ya7 (Ybv (Yb5 s md t) t) ⟨md.b,md.n,md.M.del (.int .i64 t)⟩:=by
 have c8:=Yi9 h hm
 obtain ⟨w1,hdel1,hg1,hm1⟩:=Yyz h g hm t ht 0
 have c5:w1.cell? ⟨s.kb,5,none⟩=some (.map (some s.mo.b)):=Yaa (hg1.lies.comp .kind) (Yb1 _ (j:=5) (by omega) rfl)
 obtain ⟨w2,hdel2,hg2⟩:=Ylw hg1.lies hg1.good t ht 0
 have hdel3:(Builtin.delete_ #[227,3] 0 #[.map (some s.mo.b),.int .i64 t]).run prog w1=.ok (.tuple #[]) w2:=hdel2
 have hh1:Yao (Yb5 s md t) q:=fun u y hy=>hh u y hy
 have HF:Hid (Yab w w2 s (Ybv (Yb5 s md t) t)∧Yao (Ybv (Yb5 s md t) t) q∧Ya7 (Ybv (Yb5 s md t) t) ⟨md.b,md.n,md.M.del (.int .i64 t)⟩):=⟨hg1.trans hg2,Ylv hh1 t,⟨hm1.made,hm1.have',hm1.lack,hm1.cells,hm1.num⟩⟩
 clear h g hh hm hg1 hm1 hg2 hdel2 hh1
 go_enter func284,ntmps284
 go_wp2
 go_end0
 exact ⟨rfl,HF.out⟩
theorem Yy0 (h:Yan w s) (g:Yar s) (hh:Yao s q) (hm:Ya7 s md) (t:Int) (ht:Yax t):
 Calls prog 272 #[.pointer (some ⟨s.kb,0,none⟩),.int .i64 t] w fun e w'=>e=.returned (.tuple #[])∧Yab w w' s (Ybv (Yb5 s md t) t)∧Yao (Ybv (Yb5 s md t) t) q∧Ya7 (Ybv (Yb5 s md t) t) ⟨md.b,md.n,md.M.del (.int .i64 t)⟩:=by
 have KE:=Yn2 h g hh hm t ht
 have HKE:=Yh KE
 generalize hP:(fun w'=>Yab w w' s (Ybv (Yb5 s md t) t)∧Yao (Ybv (Yb5 s md t) t) q∧Ya7 (Ybv (Yb5 s md t) t) ⟨md.b,md.n,md.M.del (.int .i64 t)⟩)=P
 have HKE2:Hid (Calls prog 284 #[.pointer (some ⟨s.kb,0,none⟩),.int .i64 t] w fun e w'=>e=.returned (.tuple #[])∧P w'):=by rw [←hP];exact HKE.out
 show Calls prog 272 #[.pointer (some ⟨s.kb,0,none⟩),.int .i64 t] w fun e w'=>e=.returned (.tuple #[])∧(fun w'=>Yab w w' s (Ybv (Yb5 s md t) t)∧Yao (Ybv (Yb5 s md t) t) q∧Ya7 (Ybv (Yb5 s md t) t) ⟨md.b,md.n,md.M.del (.int .i64 t)⟩) w'
 rw [hP]
 clear h g hh hm KE HKE hP
 go_enter func272,ntmps272
 go_wp2_with (first
  | (go_at_call 284;go_must (
   refine HKE2.out.mono ?_;rintro e w1 ⟨rfl,hp⟩;have HP:=Yh hp;clear hp)))
 go_end0
 exact ⟨rfl,HP.out⟩
theorem Yab.of_below (h:Yan w s) (g:Yar s) (hb:Below w.heap.size w w'):Yab w w' s s:=⟨h.below hb,g,Ydb.refl _ _,fun q hq _=>hb.block q hq,hb.mono (Nat.zero_le _)⟩
def Yn3 (s:Sv) (t:Int) (key:ByteArray) (m:Int):Prop:=0≤m∧m≤2∧(∀ u x,s.tx u=some x→u≠t→Ybc x.H key≤m)∧(m=0∨∃ u x,s.tx u=some x∧u≠t∧Ybc x.H key=m)
theorem Yhl (g:Yar s) (u:Int):Maps.has s.mo.M (.int .i64 u)=(s.tx u).isSome:=by
 cases hx:s.tx u with
 | some x=>exact Maps.has_true_of_atKey (g.isOpen u x hx)
 | none=>exact Maps.has_false_of_atKey (g.notOpen u hx)
theorem Yr3 (g:Yar s) {t:Int} {key:ByteArray} {m:Int} (h:Yi4 s.mo.M (s.holds key) t (fun _=>false) m):Yn3 s t key m:=by
 obtain ⟨h1,h2,h3,h4⟩:=h;refine ⟨h1,h2,fun u x hx hu=>?_,?_⟩
 ·have:=h3 u (by rw [Yhl g,hx];rfl) rfl hu
  simp only [Sv.holds,hx] at this;exact this
 ·rcases h4 with h4 | ⟨u,h4,h5,h6⟩
  ·exact .inl h4
  ·rw [Yhl g] at h4
   obtain ⟨x,hx⟩:=Option.isSome_iff_exists.1 h4;simp only [Sv.holds,hx] at h6;exact .inr ⟨u,x,hx,h5,h6⟩
theorem Yn4 (g:Yar s) (t:Int):((s.tx t).isSome=true∧∃ tb,Yf7 s.mo.M t tb)∨((s.tx t).isSome=false∧Yhf s.mo.M t):=by
 cases hx:s.tx t with
 | some x=>exact .inl ⟨rfl,x.tb,g.isOpen t x hx⟩
 | none=>exact .inr ⟨rfl,g.notOpen t hx⟩
theorem Yy1 (h:Yan w s) (g:Yar s) (t:Int) (ht:Yax t):
 Calls prog 278 #[.pointer (some ⟨s.kb,0,none⟩),.int .i64 t] w fun e w'=>e=.returned (.int .i64 (if (s.tx t).isSome then 0 else 5))∧w=w':=by
 have c5:w.cell? ⟨s.kb,5,none⟩=some (.map (some s.mo.b)):=Yaa (h.comp .kind) (Yb1 s (by omega) rfl)
 rcases Yn4 g t with ⟨h1,tb,h2⟩ | ⟨h1,h2⟩
 ·rw [h1]
  exact Yrl s.kb s.mo.b s.mo.n tb s.mo.M t w ht c5 (h.comp .mo) h2
 ·rw [h1]
  exact Yrm s.kb s.mo.b s.mo.n s.mo.M t w ht c5 (h.comp .mo) h2
theorem Yr4 (h:Yan w s) (g:Yar s) (hh:Yao s q) (t:Int) (ht:Yax t) (key:ByteArray) (hks:key.size≤140737488355328):
 Calls prog 279 #[.pointer (some ⟨s.kb,0,none⟩),.int .i64 t,.string key] w fun e w'=>∃ c,e=.returned (.int .i64 c)∧Yab w w' s s ∧
  ((Ya8 (s.tx t).isSome key≠0∧c=Ya8 (s.tx t).isSome key)∨(Ya8 (s.tx t).isSome key=0∧∃ m,Yn3 s t key m∧c=if m=2 then 8 else 0)):=by
 have c5:w.cell? ⟨s.kb,5,none⟩=some (.map (some s.mo.b)):=Yaa (h.comp .kind) (Yb1 s (by omega) rfl)
 refine (Yx9 s.kb s.mo.b s.mo.n s.mo.M t key (s.tx t).isSome (s.holds key) w ht hks c5 (h.comp .mo) (Yn4 g t) (fun _=>Yrx h g hh key)).mono ?_
 rintro e w' ⟨m,h1,rfl,h2⟩
 refine ⟨_,rfl,Yab.of_below h g h2,?_⟩
 by_cases hz:Ya8 (s.tx t).isSome key=0
 ·exact .inr ⟨hz,m,Yr3 g (h1 hz),by rw [if_pos hz]⟩
 ·exact .inl ⟨hz,by rw [if_neg hz]⟩
theorem Yr5 (h:Yan w s) (g:Yar s) (hh:Yao s q) (hq:q≤2000000000000) (t:Int) (ht:Yax t) (key:ByteArray) (hks:key.size≤140737488355328) (is:Bool) (val:ByteArray) (hvs:val.size≤140737488355328):
 Calls prog 280 #[.pointer (some ⟨s.kb,0,none⟩),.int .i64 t,.string key,.agg #[.bool is,.string val]] w fun e w'=>∃ c s',e=.returned (.int .i64 c)∧Yau s s'∧Yab w w' s s' ∧
  (
   (Ya8 (s.tx t).isSome key≠0∧c=Ya8 (s.tx t).isSome key)∨(Ya8 (s.tx t).isSome key=0∧12<val.size∧c=7) ∨
   (Ya8 (s.tx t).isSome key=0∧val.size≤12∧∃ m,Yn3 s t key m∧((1≤m∧c=8)∨(m=0∧120≤s.acts∧c=10)∨(m=0∧s.acts<120∧∃ Kd,Yhh (s.cont (Yae key)) s.mo.M s.tabs (Yae key) Kd∧c=if (Maps.has Kd (lit key) || decide (Maps.size Kd<4))=true then 0 else 10)))):=by
 have c5:w.cell? ⟨s.kb,5,none⟩=some (.map (some s.mo.b)):=Yaa (h.comp .kind) (Yb1 s (by omega) rfl)
 have c7:w.cell? ⟨s.kb,7,none⟩=some (.int .i64 (s.acts:Int)):=Yaa (h.comp .kind) (Yb1 s (by omega) rfl)
 refine (Yya s.kb s.mo.b s.mo.n s.mo.M t key val is (s.acts:Int) (s.tx t).isSome (s.holds key) (fun w0 r w'=>∃ Kd,r=(Maps.has Kd (lit key) || decide (Maps.size Kd<4))∧Yhh (s.cont (Yae key)) s.mo.M s.tabs (Yae key) Kd∧∃ s',Yau s s'∧Yab w0 w' s s') w ht hks hvs (h.lt .kind _ rfl) c5 c7 (h.comp .mo) (Yn4 g t) (fun _=>Yrx h g hh key) ?_).mono ?_
 ·intro hk8 w0 hw0
  refine (Yyi (h.below hw0) g hh hq key hk8).mono ?_;rintro e w' ⟨Kd,rfl,h1,h2⟩;exact ⟨_,rfl,Kd,rfl,h1,h2⟩
 ·rintro e w' (⟨h1,rfl,h2⟩ | ⟨h1,h2,rfl,h3⟩ | ⟨h1,h2,m,h3,h4⟩)
  ·exact ⟨_,s,rfl,Yau.refl s,Yab.of_below h g h2,.inl ⟨h1,rfl⟩⟩
  ·exact ⟨_,s,rfl,Yau.refl s,Yab.of_below h g h3,.inr (.inl ⟨h1,h2,rfl⟩)⟩
  ·have hM:=Yr3 g h3
   rcases h4 with ⟨h5,rfl,h6⟩ | ⟨h5,h6,rfl,h7⟩ | ⟨h5,h6,w0,r,h7,rfl,Kd,rfl,h8,s',h9,h10⟩
   ·exact ⟨_,s,rfl,Yau.refl s,Yab.of_below h g h6,.inr (.inr ⟨h1,h2,m,hM,.inl ⟨h5,rfl⟩⟩)⟩
   ·exact ⟨_,s,rfl,Yau.refl s,Yab.of_below h g h7,.inr (.inr ⟨h1,h2,m,hM,.inr (.inl ⟨h5,by omega,rfl⟩)⟩)⟩
   ·exact ⟨_,s',rfl,h9,(Yab.of_below h g h7).trans h10,.inr (.inr ⟨h1,h2,m,hM,.inr (.inr ⟨h5,by omega,Kd,h8,rfl⟩)⟩)⟩
theorem Yhi.empty:Yhi (.map []):=fun key=>.inl fun zd=>Maps.atKey_of_not_has (by simp [Maps.has_eq]) zd
def Yfp (s:Sv):Sv:={ s with acts:=s.acts+1,begun:=s.begun+1 }
theorem Yy2 (s:Sv):(Yfp s).cells=(s.cells.setIfInBounds 7 (.int .i64 ((s.acts:Int)+1))).setIfInBounds 6 (.int .i64 ((s.begun:Int)+1)):=by
 unfold Sv.cells;have:(Yfp s).made=s.made:=rfl;rw [this]
 cases s.made <;> simp [Yfp]
theorem Yy3 (h:Yan w s) (g:Yar s) (hac:s.acts<120):Yab w ((w.setCell ⟨s.kb,7,none⟩ (.int .i64 ((s.acts:Int)+1))).setCell ⟨s.kb,6,none⟩ (.int .i64 ((s.begun:Int)+1))) s (Yfp s):=by
 have hk:w.heap[s.kb]? = some (.cells s.cells s.ty (0,0)):=h.comp .kind;have ho:∀ k,k≠s.kb→((w.setCell ⟨s.kb,7,none⟩ (.int .i64 ((s.acts:Int)+1))).setCell ⟨s.kb,6,none⟩ (.int .i64 ((s.begun:Int)+1))).heap[k]? = w.heap[k]?:=fun k hk'=>(Below.heap_setCell _ _ _ _ hk').trans (Below.heap_setCell _ _ _ _ hk')
 refine ⟨h.step (fun tag=>tag=.kind) ?_ ?_ ?_ ?_ ?_ ?_,?_,fun tag k hk'=>.inl hk',fun k _ hnt=>ho k (fun e=>hnt .kind (by rw [e];rfl)),((Below.refl _ _).setCell (p:=⟨s.kb,7,none⟩) (Nat.zero_le _) _).setCell (p:=⟨s.kb,6,none⟩) (Nat.zero_le _) _⟩
 ·intro tag ht
  refine ⟨rfl,fun W hW=>?_⟩
  cases tag using Tag.elim with
  | kind=>exact absurd rfl ht
  | _=>exact hW
 ·intro tag k ht hk'
  exact ho k (fun e=>ht (h.apart tag .kind k hk' (by rw [e];rfl)))
 ·rintro tag rfl
  show ((w.setCell ⟨s.kb,7,none⟩ (.int .i64 ((s.acts:Int)+1))).setCell ⟨s.kb,6,none⟩ (.int .i64 ((s.begun:Int)+1))).heap[s.kb]? = some (.cells (Yfp s).cells s.ty (0,0));rw [Yy2];exact Yak _ s.kb 6 _ _ s.ty (Yak w s.kb 7 _ _ s.ty hk)
 ·intro tag k _ hk'
  exact .inl hk'
 ·intro a b k ha hb _ _
  rw [ha,hb]
 ·simp
 ·have:=g.ct
  have:=g.mon;exact { dsz:=g.dsz,dv:=g.dv,fuse:=g.fuse,ok:=g.ok,wn:=g.wn,ln:=g.ln,db:=g.db,wb:=g.wb,have':=g.have',lack:=g.lack,room:=g.room,load:=g.load,chk:=g.chk,logd:=g.logd,wl:=g.wl,rise:=g.rise,st:=g.st,ct:=by show 0≤s.count∧s.count≤100+s.len+1000*((s.acts+1:Nat):Int);omega,ac:=by show s.acts+1≤120;omega,mon:=by show s.mo.n≤s.acts+1;omega,mcn:=g.mcn,isOpen:=g.isOpen,notOpen:=g.notOpen }
def Yct (s:Sv) (t:Int) (hb tb:Nat):Sv:={ s with mo:=⟨s.mo.b,s.mo.n+1,s.mo.M.put (.int .i64 t) (.held (.pointer (some ⟨tb,0,none⟩)))⟩,tx:=fun u=>if u=t then some ⟨tb,hb,0,0,.map []⟩ else s.tx u }
theorem Yy4 (h:Yan W s) (g:Yar s) (hh:Yao s q) (t:Int) (ht:Yax t) (hmo:s.mo.n<s.acts):
 ∃ w',(Instr.mapUpdate 227 (.map (some s.mo.b)) (.int .i64 t) (.pointer (some ⟨W.heap.size+1,0,none⟩))).run prog ((W.alloc (.map #[] 0)).alloc (.cells #[.int .i64 0,.map (some W.heap.size)] 359)).drew=.ok () w'∧(s.tx t=none→Yab W w' s (Yct s t W.heap.size (W.heap.size+1))∧Yao (Yct s t W.heap.size (W.heap.size+1)) q)∧(∀ k,k<W.heap.size→k≠s.mo.b→w'.heap[k]? = W.heap[k]?):=by
 have hac:=g.ac
 have hmd:Yap W 3 s.mo.b s.mo.n s.mo.M:=h.comp .mo
 have hmb:=h.lt .mo _ rfl
 have hB0:Below W.heap.size W ((W.alloc (.map #[] 0)).alloc (.cells #[.int .i64 0,.map (some W.heap.size)] 359)).drew:=((((Below.refl _ W).alloc (Nat.le_refl _) _).alloc (by simp) _)).drew
 obtain ⟨w',hr,hm',htu⟩:=World.ownsMap.store (val:=.pointer (some ⟨W.heap.size+1,0,none⟩)) (hmd.below hB0) (Maps.int_keyed underlying3) underlying227 (by unfold maxLen;omega) (Yf5 t ht) rfl
 obtain ⟨k1,k2,k3⟩:=Ygq htu
 have hz:w'.heap.size=W.heap.size+2:=by
  rw [k2];show ((W.alloc (.map #[] 0)).alloc (.cells #[.int .i64 0,.map (some W.heap.size)] 359)).heap.size=_;simp
 have ho:∀ k,k<W.heap.size→k≠s.mo.b→w'.heap[k]? = W.heap[k]?:=fun k h1 h2=>(k1 k h2).trans (hB0.block k h1)
 have hnew1:Yap w' 9 W.heap.size 0 (.map []):=Yap.kept (World.ownsMap_made W prog 9 Yb0) ((k1 _ (by omega)).trans (by
  show ((W.alloc (.map #[] 0)).alloc (.cells #[.int .i64 0,.map (some W.heap.size)] 359)).heap[W.heap.size]? = _;exact Below.heap_alloc _ _ _ (by simp)))
 have hnew2:Yf6 w' (W.heap.size+1) ((0:Nat):Int) W.heap.size:=(k1 _ (by omega)).trans (by
  show ((W.alloc (.map #[] 0)).alloc (.cells #[.int .i64 0,.map (some W.heap.size)] 359)).heap[W.heap.size+1]? = _;have:=heap_alloc_new (W.alloc (.map #[] 0)) (.cells #[.int .i64 0,.map (some W.heap.size)] 359);simpa using this)
 refine ⟨w',hr,fun htx=>?_,ho⟩
 have hB:∀ tag,tag≠.tx t→tag≠.held t→(Yct s t W.heap.size (W.heap.size+1)).blk tag=s.blk tag:=fun tag h1 h2=>by
  cases tag using Tag.elim with
  | tx u=>have hu:u≠t:=fun e=>h1 (by rw [e]);simp [Yct,hu]
  | held u=>have hu:u≠t:=fun e=>h2 (by rw [e]);simp [Yct,hu]
  | _=>rfl
 have hBt:(Yct s t W.heap.size (W.heap.size+1)).blk (.tx t)=some (W.heap.size+1):=by simp [Yct]
 have hBh:(Yct s t W.heap.size (W.heap.size+1)).blk (.held t)=some W.heap.size:=by simp [Yct]
 have hgr:∀ tag k,(Yct s t W.heap.size (W.heap.size+1)).blk tag=some k→s.blk tag=some k∨(W.heap.size≤k∧k<w'.heap.size):=fun tag k hk=>by
  by_cases h1:tag=.tx t
  ·subst h1;rw [hBt] at hk;simp at hk;exact .inr (by omega)
  ·by_cases h2:tag=.held t
   ·subst h2;rw [hBh] at hk;simp at hk;exact .inr (by omega)
   ·rw [hB tag h1 h2] at hk;exact .inl hk
 refine ⟨⟨h.step (fun tag=>tag=.mo∨tag=.tx t∨tag=.held t) ?_ ?_ ?_ (fun tag k _ hk=>hgr tag k hk) ?_ (by omega),?_,fun tag k hk=>(hgr tag k hk).imp_right (·.1),fun k hk hnt=>ho k hk (fun e=>hnt .mo (by rw [e];rfl)),(hB0.mono (Nat.zero_le _)).trans k3⟩,?_⟩
 ·intro tag htg
  simp only [not_or] at htg;obtain ⟨t1,t2,t3⟩:=htg;refine ⟨hB tag t2 t3,fun W' hW=>?_⟩
  cases tag using Tag.elim with
  | mo=>exact absurd rfl t1
  | tx u=>have hu:u≠t:=fun e=>t2 (by rw [e]);intro y hy;simp [Yct,hu] at hy;exact hW y hy
  | held u=>have hu:u≠t:=fun e=>t3 (by rw [e]);intro y hy;simp [Yct,hu] at hy;exact hW y hy
  | _=>exact hW
 ·intro tag k htg hk
  simp only [not_or] at htg;exact ho k (h.lt tag k hk) (fun e=>htg.1 (h.apart tag .mo k hk (by rw [e];rfl)))
 ·rintro tag (rfl | rfl | rfl)
  ·exact hm'
  ·intro y hy
   simp [Yct] at hy;subst hy;exact hnew2
  ·intro y hy
   simp [Yct] at hy;subst hy;exact hnew1
 ·rintro a b k (rfl | rfl | rfl) (rfl | rfl | rfl) h1 h2
  ·rfl
  ·rw [hBt] at h2;simp [Yct] at h1 h2;omega
  ·rw [hBh] at h2;simp [Yct] at h1 h2;omega
  ·rw [hBt] at h1;simp [Yct] at h1 h2;omega
  ·rfl
  ·rw [hBt] at h1;rw [hBh] at h2;simp at h1 h2;omega
  ·rw [hBh] at h1;simp [Yct] at h1 h2;omega
  ·rw [hBh] at h1;rw [hBt] at h2;simp at h1 h2;omega
  ·rfl
 ·have hM:=World.ownsMap.isMap hmd
  exact {
   dsz:=g.dsz,dv:=g.dv,fuse:=g.fuse,ok:=g.ok,wn:=g.wn,ln:=g.ln,db:=g.db,wb:=g.wb,have':=g.have',lack:=g.lack,room:=g.room,load:=g.load,chk:=g.chk,logd:=g.logd,wl:=g.wl,rise:=g.rise,st:=g.st,ct:=g.ct,ac:=g.ac,mon:=hmo,mcn:=g.mcn
   isOpen:=fun u y hy=>by
    by_cases hu:u=t
    ·subst hu
     simp [Yct] at hy;subst hy;exact fun zd=>Maps.atKey_put_same hM (by simp [WideAt.IsKeyLit]) _ _
    ·simp [Yct,hu] at hy
     exact fun zd=>(Maps.atKey_put_other (by simpa using hu) _ _).trans (g.isOpen u y hy zd)
   notOpen:=fun u hy=>by
    by_cases hu:u=t
    ·subst hu;simp [Yct] at hy
    ·simp [Yct,hu] at hy
     exact fun zd=>(Maps.atKey_put_other (by simpa using hu) _ _).trans (g.notOpen u hy zd) }
 ·intro u y hy
  by_cases hu:u=t
  ·subst hu
   simp [Yct] at hy;subst hy;exact ⟨Nat.zero_le _,Yhi.empty,Maps.isMap_empty⟩
  ·simp [Yct,hu] at hy
   exact hh u y hy
def Yga (w:World) (s:Sv) (q:Nat) (e:Ending) (w':World):Prop:=
 (4≤Maps.size s.mo.M∧e=.returned (.tuple #[.int .i64 0,.int .i64 9])∧w=w')∨(Maps.size s.mo.M<4∧120≤s.acts∧e=.returned (.tuple #[.int .i64 0,.int .i64 10])∧w=w') ∨
 (Maps.size s.mo.M<4∧s.acts<120∧e=.returned (.tuple #[.int .i64 ((s.begun:Int)+1),.int .i64 0])∧∃ hb tb,Yab w w' s (Yct (Yfp s) ((s.begun:Int)+1) hb tb)∧Yao (Yct (Yfp s) ((s.begun:Int)+1) hb tb) q)
theorem Yy5 (h:Yan w s) (g:Yar s) (hh:Yao s q) (hbg:s.begun≤1000) (htx:s.tx ((s.begun:Int)+1)=none):
 Calls prog 273 #[.pointer (some ⟨s.kb,0,none⟩)] w (Yga w s q):=by
 have c5:w.cell? ⟨s.kb,5,none⟩=some (.map (some s.mo.b)):=Yaa (h.comp .kind) (Yb1 s (by omega) rfl)
 have c6:w.cell? ⟨s.kb,6,none⟩=some (.int .i64 (s.begun:Int)):=Yaa (h.comp .kind) (Yb1 s (by omega) rfl)
 have c7:w.cell? ⟨s.kb,7,none⟩=some (.int .i64 (s.acts:Int)):=Yaa (h.comp .kind) (Yb1 s (by omega) rfl)
 have f6:w.frozen? ⟨s.kb,6,none⟩=false:=Yah 6 (h.comp .kind)
 have f7:w.frozen? ⟨s.kb,7,none⟩=false:=Yah 7 (h.comp .kind)
 have hmo:Yap w 3 s.mo.b s.mo.n s.mo.M:=h.comp .mo
 have hlen:=World.ownsMap.len hmo underlying227 3
 have KS:=Ynr s.kb (s.acts:Int) w c7
 have hac:=g.ac
 by_cases h4:4≤Maps.size s.mo.M
 ·have h4':(4:Int)≤(Maps.size s.mo.M:Int):=by omega
  have HE:Hid (Yga w s q (.returned (.tuple #[.int .i64 0,.int .i64 9])) w):=.inl ⟨h4,rfl,rfl⟩;generalize Yga w s q=B at HE ⊢;generalize (Maps.size s.mo.M:Int)=sz at hlen h4';clear h g hh hmo KS h4;go_enter func273,ntmps273;go_wp2;exact HE.out
 ·have h4':¬(4:Int)≤(Maps.size s.mo.M:Int):=by omega
  by_cases ha:120≤s.acts
  ·have ha':(120:Int)≤(s.acts:Int):=by omega
   have HE:Hid (Yga w s q (.returned (.tuple #[.int .i64 0,.int .i64 10])) w):=.inr (.inl ⟨by omega,ha,rfl,rfl⟩);generalize Yga w s q=B at HE ⊢;generalize (Maps.size s.mo.M:Int)=sz at hlen h4';clear h g hh hmo;go_enter func273,ntmps273;go_wp2_with (first
    | (go_at_call 285;refine KS.mono ?_;rintro e w' ⟨rfl,rfl⟩))
   exact HE.out
  ·have ha':¬(120:Int)≤(s.acts:Int):=by omega
   have hG1:=Yy3 h g (by omega);have hw7:wrap64 ((s.acts:Int)+1)=(s.acts:Int)+1:=by simp only [wrap64];omega
   have hw6:wrap64 ((s.begun:Int)+1)=(s.begun:Int)+1:=by simp only [wrap64];omega
   have hmon:=g.mon;have hti:Yax ((s.begun:Int)+1):=⟨by omega,by omega⟩;have hkm:s.kb≠s.mo.b:=h.ne (a:=.kind) (b:=.mo) rfl rfl (by simp);have hkw:s.kb<w.heap.size:=h.lt .kind _ rfl;have HD:Hid (∀ W,W=((w.setCell ⟨s.kb,7,none⟩ (.int .i64 ((s.acts:Int)+1))).setCell ⟨s.kb,6,none⟩ (.int .i64 ((s.begun:Int)+1)))→W.cell? ⟨s.kb,5,none⟩=some (.map (some s.mo.b))∧W.cell? ⟨s.kb,6,none⟩=some (.int .i64 ((s.begun:Int)+1))∧s.kb<W.heap.size ∧
    ∃ w',(Instr.mapUpdate 227 (.map (some s.mo.b)) (.int .i64 ((s.begun:Int)+1)) (.pointer (some ⟨W.heap.size+1,0,none⟩))).run prog ((W.alloc (.map #[] 0)).alloc (.cells #[.int .i64 0,.map (some W.heap.size)] 359)).drew=.ok () w'∧w'.cell? ⟨s.kb,6,none⟩=some (.int .i64 ((s.begun:Int)+1))∧Yga w s q (.returned (.tuple #[.int .i64 ((s.begun:Int)+1),.int .i64 0])) w'):=by
    intro W hW
    rw [←hW] at hG1
    have d6:W.cell? ⟨s.kb,6,none⟩=some (.int .i64 ((s.begun:Int)+1)):=Yaa (hG1.lies.comp .kind) (Yb1 (Yfp s) (j:=6) (by omega) (by simp [Yfp]))
    have hW1:s.kb<W.heap.size:=hG1.lies.lt .kind _ rfl
    obtain ⟨w',b1,b2,b3⟩:=Yy4 (q:=q) hG1.lies hG1.good (fun u y hy=>hh u y hy) ((s.begun:Int)+1) hti (by show s.mo.n<s.acts+1;omega)
    obtain ⟨b4,b5⟩:=b2 htx
    exact ⟨Yaa (hG1.lies.comp .kind) (Yb1 (Yfp s) (j:=5) (by omega) rfl),d6,hW1,w',b1,(World.cell?_of_block (b3 s.kb hW1 hkm)).trans d6,.inr (.inr ⟨by omega,by omega,rfl,_,_,hG1.trans b4,b5⟩)⟩
   have hmm:=@run_makeMap prog;generalize Yga w s q=B at HD ⊢;generalize (Maps.size s.mo.M:Int)=sz at hlen h4';generalize (s.acts:Int)=ac at *;generalize (s.begun:Int)=bg at *;clear h g hh hmo hG1 hmon;go_enter func273,ntmps273;go_wp2_with (first
    | (go_at_call 285;refine KS.mono ?_;rintro e w' ⟨rfl,rfl⟩))
   obtain ⟨W,hW⟩:∃ W,W=((w.setCell ⟨s.kb,7,none⟩ (.int .i64 (ac+1))).setCell ⟨s.kb,6,none⟩ (.int .i64 (bg+1))):=⟨_,rfl⟩;obtain ⟨d5,d6,hkW,w2,hup,e6,hfin⟩:=HD.out W hW;rw [←hW];have HF:=Yh hfin;clear hW hfin c5 c6 c7 f6 f7 hlen KS;go_region
   go_wp2;exact HF.out
def Yb8:Bool→TypeId
 | true=>234
 | false=>224
theorem Yy6 (c:Nat) (w:World):(method 476 224 (.pointer (some ⟨c,0,none⟩)) "Begin").run prog w=.ok (273,.pointer (some ⟨c,0,none⟩)) w:=by kernel_rfl
theorem Yy7 (h:Yan w s) (g:Yar s) (hh:Yao s q) (hbg:s.begun≤1000) (htx:s.tx ((s.begun:Int)+1)=none) (k:Bool) (a:Nat) (ca:w.cell? ⟨a,2,none⟩=some (.iface (Yb8 k) (.pointer (some ⟨s.kb,0,none⟩)))):
 Calls prog 19 #[.pointer (some ⟨a,0,none⟩)] w (fun e w'=>∃ x y,e=.returned (.tuple #[x,y])∧Yga w s q (.returned (.tuple #[x,y])) w'):=by
 have K:Calls prog 273 #[.pointer (some ⟨s.kb,0,none⟩)] w (fun e w'=>∃ x y,e=.returned (.tuple #[x,y])∧Yga w s q (.returned (.tuple #[x,y])) w'):=by
  refine (Yy5 h g hh hbg htx).mono ?_;rintro e w' hb;rcases hb with ⟨h1,rfl,h2⟩ | ⟨h1,h2,rfl,h3⟩ | ⟨h1,h2,rfl,h3⟩
  ·exact ⟨_,_,rfl,.inl ⟨h1,rfl,h2⟩⟩
  ·exact ⟨_,_,rfl,.inr (.inl ⟨h1,h2,rfl,h3⟩)⟩
  ·exact ⟨_,_,rfl,.inr (.inr ⟨h1,h2,rfl,h3⟩)⟩
 have HK:=Yh K
 generalize Yga w s q=B at HK ⊢
 clear h g hh K
 cases k with
 | true=>
  simp only [Yb8] at ca;have hme:=Yvn;go_enter func19,ntmps19;go_wp2_with (first
   | (go_at_call 41;refine (Yfz _ _ _ _ ca).mono ?_;rintro e w' ⟨rfl,rfl⟩)
   | (go_at_call 273;go_must (refine HK.out.mono ?_;rintro e w' ⟨x,y,rfl,hb⟩;have HB:=Yh hb;clear hb)))
  go_ret2;exact ⟨x,y,rfl,HB.out⟩
 | false=>
  simp only [Yb8] at ca;have hme:=Yy6;go_enter func19,ntmps19;go_wp2_with (first
   | (go_at_call 41;refine (Yfz _ _ _ _ ca).mono ?_;rintro e w' ⟨rfl,rfl⟩)
   | (go_at_call 273;go_must (refine HK.out.mono ?_;rintro e w' ⟨x,y,rfl,hb⟩;have HB:=Yh hb;clear hb)))
  go_ret2;exact ⟨x,y,rfl,HB.out⟩
def Yie (s:Sv) (t:Int) (key:ByteArray):Prop:=Ya8 (s.tx t).isSome key=0∧∀ u x,s.tx u=some x→u≠t→Ybc x.H key≠2
def Ygb (s:Sv) (t:Int) (key:ByteArray):Int:=if Ya8 (s.tx t).isSome key=0 then 8 else Ya8 (s.tx t).isSome key
theorem Yr6 (h:Yan w s) (g:Yar s) (hh:Yao s q) (t:Int) (ht:Yax t) (key:ByteArray) (hks:key.size≤140737488355328) (hf:Yie s t key):
 Calls prog 279 #[.pointer (some ⟨s.kb,0,none⟩),.int .i64 t,.string key] w fun e w'=>e=.returned (.int .i64 0)∧Yab w w' s s:=by
 refine (Yr4 h g hh t ht key hks).mono ?_
 rintro e w' ⟨c,rfl,h1,h2⟩
 refine ⟨?_,h1⟩
 rcases h2 with ⟨h2,_⟩ | ⟨_,m,⟨_,_,_,h4⟩,rfl⟩
 ·exact absurd hf.1 h2
 ·by_cases hm:m=2
  ·subst hm
   rcases h4 with h4 | ⟨u,x,h5,h6,h7⟩
   ·omega
   ·exact absurd h7 (hf.2 u x h5 h6)
  ·rw [if_neg hm]
theorem Yy8 (h:Yan w s) (g:Yar s) (hh:Yao s q) (t:Int) (ht:Yax t) (key:ByteArray) (hks:key.size≤140737488355328) (hf:¬Yie s t key):
 Calls prog 279 #[.pointer (some ⟨s.kb,0,none⟩),.int .i64 t,.string key] w fun e w'=>e=.returned (.int .i64 (Ygb s t key))∧Yab w w' s s:=by
 refine (Yr4 h g hh t ht key hks).mono ?_
 rintro e w' ⟨c,rfl,h1,h2⟩
 refine ⟨?_,h1⟩
 unfold Ygb
 rcases h2 with ⟨h2,rfl⟩ | ⟨h2,m,⟨h5,h6,h3,h4⟩,rfl⟩
 ·rw [if_neg h2]
 ·rw [if_pos h2]
  have:m=2:=Classical.byContradiction fun hm=>hf ⟨h2,fun u x hx hu hc=>by have:=h3 u x hx hu;omega⟩
  rw [if_pos this]
theorem Yy9 (s:Sv) (t:Int) (key:ByteArray):Ygb s t key≠0:=by
 unfold Ygb;split
 ·omega
 ·assumption
theorem Yr7 (c:Nat) (w:World):(method 476 234 (.pointer (some ⟨c,0,none⟩)) "MayRead").run prog w=.ok (279,.pointer (some ⟨c,0,none⟩)) w:=by kernel_rfl
theorem Yr8 (c:Nat) (w:World):(method 476 224 (.pointer (some ⟨c,0,none⟩)) "MayRead").run prog w=.ok (279,.pointer (some ⟨c,0,none⟩)) w:=by kernel_rfl
theorem Yza (c:Nat) (w:World):(method 476 234 (.pointer (some ⟨c,0,none⟩)) "Read").run prog w=.ok (302,.pointer (some ⟨c,0,none⟩)) w:=by kernel_rfl
theorem Yzb (c:Nat) (w:World):(method 476 224 (.pointer (some ⟨c,0,none⟩)) "Read").run prog w=.ok (281,.pointer (some ⟨c,0,none⟩)) w:=by kernel_rfl
theorem Yzc (h:Yan w s) (g:Yar s) (hh:Yao s q) (t:Int) (ht:Yax t) (key:ByteArray) (hks:key.size≤140737488355328) (hf:¬Yie s t key) (k:Bool) (a:Nat) (haw:a<w.heap.size) (ca:w.cell? ⟨a,2,none⟩=some (.iface (Yb8 k) (.pointer (some ⟨s.kb,0,none⟩)))):
 Calls prog 23 #[.pointer (some ⟨a,0,none⟩),.int .i64 t,.string key] w fun e w'=>e=.returned (.tuple #[.agg #[.bool false,.string ByteArray.empty],.int .i64 (Ygb s t key)])∧Yab w w' s s:=by
 have HB0:Hid (∀ o,Below w.heap.size w (w.alloc o)):=fun o=>(Below.refl _ w).alloc (Nat.le_refl _) _
 have KM:Hid (∀ W,Below w.heap.size w W→Calls prog 279 #[.pointer (some ⟨s.kb,0,none⟩),.int .i64 t,.string key] W fun e w'=>e=.returned (.int .i64 (Ygb s t key))∧Yab W w' s s):=fun W hW=>Yy8 (h.below hW) g hh t ht key hks hf
 have KD:Hid (∀ o,Calls prog 41 #[.pointer (some ⟨a,0,none⟩)] (w.alloc o) fun e w'=>e=.returned (.bool false)∧w.alloc o=w'):=fun o=>Yfz a _ _ _ (((HB0.out o).cell (p:=⟨a,2,none⟩) haw).trans ca)
 have HL:=Yh h
 have hne:(Ygb s t key == 0)=false:=by simpa using Yy9 s t key
 generalize Ygb s t key=er at KM hne ⊢
 generalize hkb:s.kb=kb at KM ca
 clear h g hh hf
 have hme:=Yr7
 have hmn:=Yr8
 cases k with
 | true=>
  simp only [Yb8] at ca;go_enter func23,ntmps23;go_wp2_with (first
   | (go_at_call 41;refine (KD.out _).mono ?_;rintro e w' ⟨rfl,rfl⟩)
   | (go_at_call 279;go_must (
    refine (KM.out _ (HB0.out _)).mono ?_;rintro e w1 ⟨rfl,hg1⟩;have HG1:=Yh hg1;have q2:=(hg1.own HL.out (q:=w.heap.size) (Nat.le_refl _) (by simp)).1.trans (heap_alloc_new w _);have x0:=Yaa (j:=0) q2 rfl;have x1:=Yaa (j:=1) q2 rfl;have y0:=Yah 0 q2;have y1:=Yah 1 q2;have HQQ:=Yh q2;clear hg1 q2)))
  have k3:=Yak _ w.heap.size 1 (.string ByteArray.empty) _ 38 (Yak w1 w.heap.size 0 (.bool false) _ 38 HQQ.out);refine bodyPost_ret (v:=.tuple #[.agg #[.bool false,.string ByteArray.empty],.int .i64 er]) (Ygl Tryz.results23 _ _ w.heap.size 38 #[.bool false,.string ByteArray.empty] (0,0) _ _ rfl k3 underlying38 rfl (by kernel_rfl) rfl) rfl ⟨rfl,?_⟩;refine Yab.wrap HL.out (HB0.out _) HG1.out (fun j _ hj=>?_) ?_
  ·have hj':j≠w.heap.size:=by simp at hj;omega
   rw [Below.heap_setCell _ _ _ _ hj',Below.heap_setCell _ _ _ _ hj']
  ·exact ((Below.refl _ _).setCell (p:=⟨w.heap.size,0,none⟩) (by simp) _).setCell (p:=⟨w.heap.size,1,none⟩) (by simp) _
 | false=>
  simp only [Yb8] at ca;go_enter func23,ntmps23;go_wp2_with (first
   | (go_at_call 41;refine (KD.out _).mono ?_;rintro e w' ⟨rfl,rfl⟩)
   | (go_at_call 279;go_must (
    refine (KM.out _ (HB0.out _)).mono ?_;rintro e w1 ⟨rfl,hg1⟩;have HG1:=Yh hg1;have q2:=(hg1.own HL.out (q:=w.heap.size) (Nat.le_refl _) (by simp)).1.trans (heap_alloc_new w _);have x0:=Yaa (j:=0) q2 rfl;have x1:=Yaa (j:=1) q2 rfl;have y0:=Yah 0 q2;have y1:=Yah 1 q2;have HQQ:=Yh q2;clear hg1 q2)))
  have k3:=Yak _ w.heap.size 1 (.string ByteArray.empty) _ 38 (Yak w1 w.heap.size 0 (.bool false) _ 38 HQQ.out);refine bodyPost_ret (v:=.tuple #[.agg #[.bool false,.string ByteArray.empty],.int .i64 er]) (Ygl Tryz.results23 _ _ w.heap.size 38 #[.bool false,.string ByteArray.empty] (0,0) _ _ rfl k3 underlying38 rfl (by kernel_rfl) rfl) rfl ⟨rfl,?_⟩;refine Yab.wrap HL.out (HB0.out _) HG1.out (fun j _ hj=>?_) ?_
  ·have hj':j≠w.heap.size:=by simp at hj;omega
   rw [Below.heap_setCell _ _ _ _ hj',Below.heap_setCell _ _ _ _ hj']
  ·exact ((Below.refl _ _).setCell (p:=⟨w.heap.size,0,none⟩) (by simp) _).setCell (p:=⟨w.heap.size,1,none⟩) (by simp) _
theorem Yzd (h:Yan w s) (g:Yar s) (hh:Yao s q) (hq:q≤1999999999999) (t:Int) (ht:Yax t) (x:TxE) (hx:s.tx t=some x) (key:ByteArray) (hks:key.size≤8) (hf:Yie s t key) (a:Nat) (haw:a<w.heap.size) (hao:∀ tag,s.blk tag≠some a) (ca:w.cell? ⟨a,2,none⟩=some (.iface 234 (.pointer (some ⟨s.kb,0,none⟩)))):
 Calls prog 23 #[.pointer (some ⟨a,0,none⟩),.int .i64 t,.string key] w fun e w'=>e=.returned (.tuple #[.agg #[.bool (Yag (s.cont (Yae key)) key).1,.string (Yag (s.cont (Yae key)) key).2],.int .i64 0])∧∃ s',Yau (granted s t x key 1) s'∧Yab w w' s s'∧Yao s' (q+1):=by
 have HB0:Hid (∀ o,Below w.heap.size w (w.alloc o)):=fun o=>(Below.refl _ w).alloc (Nat.le_refl _) _
 have KM:Hid (∀ W,Below w.heap.size w W→Calls prog 279 #[.pointer (some ⟨s.kb,0,none⟩),.int .i64 t,.string key] W fun e w'=>e=.returned (.int .i64 0)∧Yab W w' s s):=fun W hW=>Yr6 (h.below hW) g hh t ht key (by omega) hf
 have KD:Hid (∀ o,Calls prog 41 #[.pointer (some ⟨a,0,none⟩)] (w.alloc o) fun e w'=>e=.returned (.bool false)∧w.alloc o=w'):=fun o=>Yfz a _ _ _ (((HB0.out o).cell (p:=⟨a,2,none⟩) haw).trans ca)
 have KC:Hid (∀ W,Calls prog 45 #[.string key] W fun e w'=>e=.returned (.string key)∧Below W.heap.size W w'):=fun W=>Yiz key W (by omega)
 have KR:Hid (∀ W0 W,Yab W0 W s s→Calls prog 302 #[.pointer (some ⟨s.kb,0,none⟩),.int .i64 t,.string key] W fun e w'=>e=.returned (.agg #[.bool (Yag (s.cont (Yae key)) key).1,.string (Yag (s.cont (Yae key)) key).2])∧∃ s',Yau (granted s t x key 1) s'∧Yab W0 w' s s'∧Yao s' (q+1)):=fun W0 W hW=>(Yyl hW.lies hW.good hh hq t ht x hx key hks).mono fun e w' ⟨h1,s',h2,h3,h4⟩=>⟨h1,s',h2,hW.trans h3,h4⟩
 have HBL:Hid (∀ W0 W W',Yab W0 W s s→Below W.heap.size W W'→Yab W0 W' s s):=fun W0 W W' h1 h2=>h1.trans (Yab.of_below h1.lies h1.good h2)
 have HKA:Hid (∀ o W s',Yab (w.alloc o) W s s'→W.cell? ⟨a,2,none⟩=some (.iface 234 (.pointer (some ⟨s.kb,0,none⟩)))):=fun o W s' hW=>(World.cell?_of_block ((hW.off a (by simp;omega) hao).trans ((HB0.out o).block a haw))).trans ca
 have HL:=Yh h
 generalize (Yag (s.cont (Yae key)) key)=u at KR ⊢
 obtain ⟨ui,us⟩:=u
 simp only at KR ⊢
 generalize granted s t x key 1=s1 at KR ⊢
 generalize hkb:s.kb=kb at KM ca KR HKA
 clear h g hh hf hx hao
 have hna:a≠w.heap.size:=by omega
 have hna2:w.heap.size≠a:=by omega
 have hna3:=World.new_ne w ⟨a,2,none⟩ ca
 have hme:=Yr7
 have hmr:=Yza
 go_enter func23,ntmps23
 go_wp2_with (first
  | (go_at_call 41;refine (KD.out _).mono ?_;rintro e w' ⟨rfl,rfl⟩)
  | (go_at_call 279;go_must (
   refine (KM.out _ (HB0.out _)).mono ?_;rintro e w1 ⟨rfl,hg1⟩;have HG1:=Yh hg1;have ca1:=HKA.out _ w1 s hg1;clear hg1)))
 go_region_held3 (fun w'=>w'.cell? ⟨a,2,none⟩=some (.iface 234 (.pointer (some ⟨kb,0,none⟩))))
  (go_keep)
  (first
   | (go_at_call 45;go_must (
    refine (KC.out _).mono ?_;rintro e w2 ⟨rfl,hb2⟩;have HG2:=Yh (HBL.out _ _ _ HG1.out.drew hb2);have ca2:=HKA.out _ w2 s HG2.out;clear hb2))
   | (go_at_call 302;go_must (
    refine (KR.out _ _ HG2.out).mono ?_;rintro e w3 ⟨rfl,s2,hp2,hg2,hh2⟩;have HP2:=Yh hp2;have HG3:=Yh hg2;have HH3:=Yh hh2;have ca3:=HKA.out _ w3 s2 hg2;have q2:=(hg2.own HL.out (q:=w.heap.size) (Nat.le_refl _) (by simp)).1.trans (heap_alloc_new w _);have x0:=Yaa (j:=0) q2 rfl;have x1:=Yaa (j:=1) q2 rfl;have y0:=Yah 0 q2;have y1:=Yah 1 q2;have HQQ:=Yh q2;clear hp2 hg2 hh2 q2)))
 all_goals
  go_wp2;have k3:=Yak _ w.heap.size 1 (.string us) _ 38 (Yak w3 w.heap.size 0 (.bool ui) _ 38 HQQ.out);refine bodyPost_ret (v:=.tuple #[.agg #[.bool ui,.string us],.int .i64 0]) (Ygl Tryz.results23 _ _ w.heap.size 38 #[.bool ui,.string us] (0,0) _ _ rfl k3 underlying38 rfl (by kernel_rfl) rfl) rfl ⟨rfl,s2,HP2.out,?_,HH3.out⟩;refine Yab.wrap HL.out (HB0.out _) HG3.out (fun j _ hj=>?_) ?_
  ·have hj':j≠w.heap.size:=by simp at hj;omega
   rw [Below.heap_setCell _ _ _ _ hj',Below.heap_setCell _ _ _ _ hj']
  ·exact ((Below.refl _ _).setCell (p:=⟨w.heap.size,0,none⟩) (by simp) _).setCell (p:=⟨w.heap.size,1,none⟩) (by simp) _
theorem Yze (h:Yan w s) (g:Yar s) (hh:Yao s q) (hm:Ya7 s md) (hq:q≤1999999999999) (t:Int) (ht:Yax t) (x:TxE) (hx:s.tx t=some x) (key:ByteArray) (hks:key.size≤8) (hf:Yie s t key) (a:Nat) (haw:a<w.heap.size) (hao:∀ tag,s.blk tag≠some a) (ca:w.cell? ⟨a,2,none⟩=some (.iface 224 (.pointer (some ⟨s.kb,0,none⟩)))):
 Calls prog 23 #[.pointer (some ⟨a,0,none⟩),.int .i64 t,.string key] w fun e w'=>e=.returned (.tuple #[.agg #[.bool ((s.own t key).getD (Yag (s.cont (Yae key)) key)).1,.string ((s.own t key).getD (Yag (s.cont (Yae key)) key)).2],.int .i64 0])∧∃ s',Yau (granted s t x key 1) s'∧Yab w w' s s'∧Yao s' (q+1):=by
 have HB0:Hid (∀ o,Below w.heap.size w (w.alloc o)):=fun o=>(Below.refl _ w).alloc (Nat.le_refl _) _
 have KM:Hid (∀ W,Below w.heap.size w W→Calls prog 279 #[.pointer (some ⟨s.kb,0,none⟩),.int .i64 t,.string key] W fun e w'=>e=.returned (.int .i64 0)∧Yab W w' s s):=fun W hW=>Yr6 (h.below hW) g hh t ht key (by omega) hf
 have KD:Hid (∀ o,Calls prog 41 #[.pointer (some ⟨a,0,none⟩)] (w.alloc o) fun e w'=>e=.returned (.bool false)∧w.alloc o=w'):=fun o=>Yfz a _ _ _ (((HB0.out o).cell (p:=⟨a,2,none⟩) haw).trans ca)
 have KC:Hid (∀ W,Calls prog 45 #[.string key] W fun e w'=>e=.returned (.string key)∧Below W.heap.size W w'):=fun W=>Yiz key W (by omega)
 have KR:Hid (∀ W0 W,Yab W0 W s s→Calls prog 281 #[.pointer (some ⟨s.kb,0,none⟩),.int .i64 t,.string key] W fun e w'=>e=.returned (.agg #[.bool ((s.own t key).getD (Yag (s.cont (Yae key)) key)).1,.string ((s.own t key).getD (Yag (s.cont (Yae key)) key)).2])∧∃ s',Yau (granted s t x key 1) s'∧Yab W0 w' s s'∧Yao s' (q+1)):=fun W0 W hW=>(Yyr hW.lies hW.good hh hm hq t ht x hx key hks).mono fun e w' ⟨h1,s',h2,h3,h4⟩=>⟨h1,s',h2,hW.trans h3,h4⟩
 have HBL:Hid (∀ W0 W W',Yab W0 W s s→Below W.heap.size W W'→Yab W0 W' s s):=fun W0 W W' h1 h2=>h1.trans (Yab.of_below h1.lies h1.good h2)
 have HKA:Hid (∀ o W s',Yab (w.alloc o) W s s'→W.cell? ⟨a,2,none⟩=some (.iface 224 (.pointer (some ⟨s.kb,0,none⟩)))):=fun o W s' hW=>(World.cell?_of_block ((hW.off a (by simp;omega) hao).trans ((HB0.out o).block a haw))).trans ca
 have HL:=Yh h
 generalize ((s.own t key).getD (Yag (s.cont (Yae key)) key))=u at KR ⊢
 obtain ⟨ui,us⟩:=u
 simp only at KR ⊢
 generalize granted s t x key 1=s1 at KR ⊢
 generalize hkb:s.kb=kb at KM ca KR HKA
 clear h g hh hf hx hao hm
 have hna:a≠w.heap.size:=by omega
 have hna2:w.heap.size≠a:=by omega
 have hna3:=World.new_ne w ⟨a,2,none⟩ ca
 have hme:=Yr8
 have hmr:=Yzb
 go_enter func23,ntmps23
 go_wp2_with (first
  | (go_at_call 41;refine (KD.out _).mono ?_;rintro e w' ⟨rfl,rfl⟩)
  | (go_at_call 279;go_must (
   refine (KM.out _ (HB0.out _)).mono ?_;rintro e w1 ⟨rfl,hg1⟩;have HG1:=Yh hg1;have ca1:=HKA.out _ w1 s hg1;clear hg1)))
 go_region_held3 (fun w'=>w'.cell? ⟨a,2,none⟩=some (.iface 224 (.pointer (some ⟨kb,0,none⟩))))
  (go_keep)
  (first
   | (go_at_call 45;go_must (
    refine (KC.out _).mono ?_;rintro e w2 ⟨rfl,hb2⟩;have HG2:=Yh (HBL.out _ _ _ HG1.out.drew hb2);have ca2:=HKA.out _ w2 s HG2.out;clear hb2))
   | (go_at_call 281;go_must (
    refine (KR.out _ _ HG2.out).mono ?_;rintro e w3 ⟨rfl,s2,hp2,hg2,hh2⟩;have HP2:=Yh hp2;have HG3:=Yh hg2;have HH3:=Yh hh2;have ca3:=HKA.out _ w3 s2 hg2;have q2:=(hg2.own HL.out (q:=w.heap.size) (Nat.le_refl _) (by simp)).1.trans (heap_alloc_new w _);have x0:=Yaa (j:=0) q2 rfl;have x1:=Yaa (j:=1) q2 rfl;have y0:=Yah 0 q2;have y1:=Yah 1 q2;have HQQ:=Yh q2;clear hp2 hg2 hh2 q2)))
 all_goals
  go_wp2;have k3:=Yak _ w.heap.size 1 (.string us) _ 38 (Yak w3 w.heap.size 0 (.bool ui) _ 38 HQQ.out);refine bodyPost_ret (v:=.tuple #[.agg #[.bool ui,.string us],.int .i64 0]) (Ygl Tryz.results23 _ _ w.heap.size 38 #[.bool ui,.string us] (0,0) _ _ rfl k3 underlying38 rfl (by kernel_rfl) rfl) rfl ⟨rfl,s2,HP2.out,?_,HH3.out⟩;refine Yab.wrap HL.out (HB0.out _) HG3.out (fun j _ hj=>?_) ?_
  ·have hj':j≠w.heap.size:=by simp at hj;omega
   rw [Below.heap_setCell _ _ _ _ hj',Below.heap_setCell _ _ _ _ hj']
  ·exact ((Below.refl _ _).setCell (p:=⟨w.heap.size,0,none⟩) (by simp) _).setCell (p:=⟨w.heap.size,1,none⟩) (by simp) _
theorem Yr9 (c:Nat) (w:World):(method 476 234 (.pointer (some ⟨c,0,none⟩)) "MayEnd").run prog w=.ok (278,.pointer (some ⟨c,0,none⟩)) w:=by kernel_rfl
theorem Yzf (c:Nat) (w:World):(method 476 234 (.pointer (some ⟨c,0,none⟩)) "Commit").run prog w=.ok (300,.pointer (some ⟨c,0,none⟩)) w:=by kernel_rfl
theorem Yzg (c:Nat) (w:World):(method 476 234 (.pointer (some ⟨c,0,none⟩)) "Abort").run prog w=.ok (299,.pointer (some ⟨c,0,none⟩)) w:=by kernel_rfl
theorem Yzh (b0 b1 a kb:Nat) (t:Int) (w:World) (R:World→Prop) (h0:w.cell? ⟨b0,0,none⟩=some (.pointer (some ⟨a,0,none⟩))) (h1:w.cell? ⟨b1,0,none⟩=some (.int .i64 t)) (ca:w.cell? ⟨a,2,none⟩=some (.iface 234 (.pointer (some ⟨kb,0,none⟩))))
 (KC:Calls prog 300 #[.pointer (some ⟨kb,0,none⟩),.int .i64 t] w.drew fun e w'=>e=.returned (.tuple #[])∧R w'∧w'.cell? ⟨b0,0,none⟩=some (.pointer (some ⟨a,0,none⟩))∧w'.cell? ⟨b1,0,none⟩=some (.int .i64 t)∧w'.cell? ⟨a,2,none⟩=some (.iface 234 (.pointer (some ⟨kb,0,none⟩)))):
 Calls prog 44 #[.pointer (some ⟨b0,0,none⟩),.pointer (some ⟨b1,0,none⟩)] w fun e w'=>e=.returned (.tuple #[])∧R w':=by
 have HKC:=Yh KC
 have hme:=Yzf
 clear KC
 go_enter func44,ntmps44
 go_region_held3 (fun w'=>w'.cell? ⟨b0,0,none⟩=some (.pointer (some ⟨a,0,none⟩))∧w'.cell? ⟨b1,0,none⟩=some (.int .i64 t)∧w'.cell? ⟨a,2,none⟩=some (.iface 234 (.pointer (some ⟨kb,0,none⟩))))
  (go_keep)
  (first
   | (go_at_call 300;go_must (
    refine HKC.out.mono ?_;rintro e w1 ⟨rfl,hr,k0,k1,k2⟩;have HR:=Yh hr;clear hr)))
 all_goals
  go_wp2;go_end0;exact ⟨rfl,HR.out⟩
theorem Ysa (c:Nat) (w:World):(method 476 224 (.pointer (some ⟨c,0,none⟩)) "MayEnd").run prog w=.ok (278,.pointer (some ⟨c,0,none⟩)) w:=by kernel_rfl
theorem Yzi (c:Nat) (w:World):(method 476 224 (.pointer (some ⟨c,0,none⟩)) "Commit").run prog w=.ok (275,.pointer (some ⟨c,0,none⟩)) w:=by kernel_rfl
theorem Yzj (c:Nat) (w:World):(method 476 224 (.pointer (some ⟨c,0,none⟩)) "Abort").run prog w=.ok (272,.pointer (some ⟨c,0,none⟩)) w:=by kernel_rfl
theorem Yzk (b0 b1 a kb:Nat) (t:Int) (w:World) (R:World→Prop) (h0:w.cell? ⟨b0,0,none⟩=some (.pointer (some ⟨a,0,none⟩))) (h1:w.cell? ⟨b1,0,none⟩=some (.int .i64 t)) (ca:w.cell? ⟨a,2,none⟩=some (.iface 224 (.pointer (some ⟨kb,0,none⟩))))
 (KC:Calls prog 275 #[.pointer (some ⟨kb,0,none⟩),.int .i64 t] w.drew fun e w'=>e=.returned (.tuple #[])∧R w'∧w'.cell? ⟨b0,0,none⟩=some (.pointer (some ⟨a,0,none⟩))∧w'.cell? ⟨b1,0,none⟩=some (.int .i64 t)∧w'.cell? ⟨a,2,none⟩=some (.iface 224 (.pointer (some ⟨kb,0,none⟩)))):
 Calls prog 44 #[.pointer (some ⟨b0,0,none⟩),.pointer (some ⟨b1,0,none⟩)] w fun e w'=>e=.returned (.tuple #[])∧R w':=by
 have HKC:=Yh KC
 have hme:=Yzi
 clear KC
 go_enter func44,ntmps44
 go_region_held3 (fun w'=>w'.cell? ⟨b0,0,none⟩=some (.pointer (some ⟨a,0,none⟩))∧w'.cell? ⟨b1,0,none⟩=some (.int .i64 t)∧w'.cell? ⟨a,2,none⟩=some (.iface 224 (.pointer (some ⟨kb,0,none⟩))))
  (go_keep)
  (first
   | (go_at_call 275;go_must (
    refine HKC.out.mono ?_;rintro e w1 ⟨rfl,hr,k0,k1,k2⟩;have HR:=Yh hr;clear hr)))
 all_goals
  go_wp2;go_end0;exact ⟨rfl,HR.out⟩
theorem Yzl (b0 b1 b2 a kb:Nat) (t:Int) (w:World) (h0:w.cell? ⟨b0,0,none⟩=some (.pointer (some ⟨a,0,none⟩))) (h1:w.cell? ⟨b1,0,none⟩=some (.int .i64 t)) (ca:w.cell? ⟨a,2,none⟩=some (.iface 234 (.pointer (some ⟨kb,0,none⟩))))
 (KM:∀ W,W.heap=w.heap→Calls prog 278 #[.pointer (some ⟨kb,0,none⟩),.int .i64 t] W fun e w'=>e=.returned (.int .i64 5)∧W=w'):
 Calls prog 69 #[.pointer (some ⟨b0,0,none⟩),.pointer (some ⟨b1,0,none⟩),.pointer (some ⟨b2,0,none⟩)] w fun e w'=>e=.returned (.int .i64 5)∧Below w.heap.size w w':=by
 have HKM:=Yh (KM w.drew rfl)
 have HBD:Hid (Below w.heap.size w w.drew):=(Below.refl _ w).drew
 have hme:=Yr9
 clear KM
 go_enter func69,ntmps69
 go_wp2
 go_region_held3 (fun w'=>w'.cell? ⟨b0,0,none⟩=some (.pointer (some ⟨a,0,none⟩))∧w'.cell? ⟨b1,0,none⟩=some (.int .i64 t)∧w'.cell? ⟨a,2,none⟩=some (.iface 234 (.pointer (some ⟨kb,0,none⟩))))
  (go_keep)
  (first
   | (go_at_call 278;go_must (
    refine HKM.out.mono ?_;rintro e w1 ⟨rfl,rfl⟩)))
 all_goals
  go_wp2;go_ret;exact ⟨rfl,HBD.out⟩
theorem Yzm (b0 b1 b2 a kb f:Nat) (cap:Array Value) (t:Int) (w:World) (R:World→Prop) (h0:w.cell? ⟨b0,0,none⟩=some (.pointer (some ⟨a,0,none⟩))) (h1:w.cell? ⟨b1,0,none⟩=some (.int .i64 t)) (h2:w.cell? ⟨b2,0,none⟩=some (.func (.func f) #[] cap)) (ca:w.cell? ⟨a,2,none⟩=some (.iface 234 (.pointer (some ⟨kb,0,none⟩))))
 (KM:∀ W,W.heap=w.heap→Calls prog 278 #[.pointer (some ⟨kb,0,none⟩),.int .i64 t] W fun e w'=>e=.returned (.int .i64 0)∧W=w')
 (KH:Calls prog f cap w.drew fun e w'=>e=.returned (.tuple #[])∧R w')
 (hen:∀ args w,(callFunc f args).run prog w=.ok (.enter f args) w):
 Calls prog 69 #[.pointer (some ⟨b0,0,none⟩),.pointer (some ⟨b1,0,none⟩),.pointer (some ⟨b2,0,none⟩)] w fun e w'=>e=.returned (.int .i64 0)∧R w':=by
 have HKM:=Yh (KM w.drew rfl)
 have HKH:=Yh KH
 have hme:=Yr9
 have g2:w.drew.cell? ⟨b2,0,none⟩=some (.func (.func f) #[] cap):=h2
 clear KM KH
 go_enter func69,ntmps69
 go_wp2
 go_region_held3 (fun w'=>w'.cell? ⟨b0,0,none⟩=some (.pointer (some ⟨a,0,none⟩))∧w'.cell? ⟨b1,0,none⟩=some (.int .i64 t)∧w'.cell? ⟨a,2,none⟩=some (.iface 234 (.pointer (some ⟨kb,0,none⟩))))
  (go_keep)
  (first
   | (go_at_call 278;go_must (
    refine HKM.out.mono ?_;rintro e w1 ⟨rfl,rfl⟩)))
 all_goals
  go_wp2;refine HKH.out.mono ?_;rintro e w1 ⟨rfl,hr⟩;have HR:=Yh hr;clear hr;go_wp2;go_ret;exact ⟨rfl,HR.out⟩
theorem Yzn (b0 b1 b2 a kb:Nat) (t:Int) (w:World) (h0:w.cell? ⟨b0,0,none⟩=some (.pointer (some ⟨a,0,none⟩))) (h1:w.cell? ⟨b1,0,none⟩=some (.int .i64 t)) (ca:w.cell? ⟨a,2,none⟩=some (.iface 224 (.pointer (some ⟨kb,0,none⟩))))
 (KM:∀ W,W.heap=w.heap→Calls prog 278 #[.pointer (some ⟨kb,0,none⟩),.int .i64 t] W fun e w'=>e=.returned (.int .i64 5)∧W=w'):
 Calls prog 69 #[.pointer (some ⟨b0,0,none⟩),.pointer (some ⟨b1,0,none⟩),.pointer (some ⟨b2,0,none⟩)] w fun e w'=>e=.returned (.int .i64 5)∧Below w.heap.size w w':=by
 have HKM:=Yh (KM w.drew rfl)
 have HBD:Hid (Below w.heap.size w w.drew):=(Below.refl _ w).drew
 have hme:=Ysa
 clear KM
 go_enter func69,ntmps69
 go_wp2
 go_region_held3 (fun w'=>w'.cell? ⟨b0,0,none⟩=some (.pointer (some ⟨a,0,none⟩))∧w'.cell? ⟨b1,0,none⟩=some (.int .i64 t)∧w'.cell? ⟨a,2,none⟩=some (.iface 224 (.pointer (some ⟨kb,0,none⟩))))
  (go_keep)
  (first
   | (go_at_call 278;go_must (
    refine HKM.out.mono ?_;rintro e w1 ⟨rfl,rfl⟩)))
 all_goals
  go_wp2;go_ret;exact ⟨rfl,HBD.out⟩
theorem Yzo (b0 b1 b2 a kb f:Nat) (cap:Array Value) (t:Int) (w:World) (R:World→Prop) (h0:w.cell? ⟨b0,0,none⟩=some (.pointer (some ⟨a,0,none⟩))) (h1:w.cell? ⟨b1,0,none⟩=some (.int .i64 t)) (h2:w.cell? ⟨b2,0,none⟩=some (.func (.func f) #[] cap)) (ca:w.cell? ⟨a,2,none⟩=some (.iface 224 (.pointer (some ⟨kb,0,none⟩))))
 (KM:∀ W,W.heap=w.heap→Calls prog 278 #[.pointer (some ⟨kb,0,none⟩),.int .i64 t] W fun e w'=>e=.returned (.int .i64 0)∧W=w')
 (KH:Calls prog f cap w.drew fun e w'=>e=.returned (.tuple #[])∧R w')
 (hen:∀ args w,(callFunc f args).run prog w=.ok (.enter f args) w):
 Calls prog 69 #[.pointer (some ⟨b0,0,none⟩),.pointer (some ⟨b1,0,none⟩),.pointer (some ⟨b2,0,none⟩)] w fun e w'=>e=.returned (.int .i64 0)∧R w':=by
 have HKM:=Yh (KM w.drew rfl)
 have HKH:=Yh KH
 have hme:=Ysa
 have g2:w.drew.cell? ⟨b2,0,none⟩=some (.func (.func f) #[] cap):=h2
 clear KM KH
 go_enter func69,ntmps69
 go_wp2
 go_region_held3 (fun w'=>w'.cell? ⟨b0,0,none⟩=some (.pointer (some ⟨a,0,none⟩))∧w'.cell? ⟨b1,0,none⟩=some (.int .i64 t)∧w'.cell? ⟨a,2,none⟩=some (.iface 224 (.pointer (some ⟨kb,0,none⟩))))
  (go_keep)
  (first
   | (go_at_call 278;go_must (
    refine HKM.out.mono ?_;rintro e w1 ⟨rfl,rfl⟩)))
 all_goals
  go_wp2;refine HKH.out.mono ?_;rintro e w1 ⟨rfl,hr⟩;have HR:=Yh hr;clear hr;go_wp2;go_ret;exact ⟨rfl,HR.out⟩
theorem Ysb (c:Nat) (w:World):(method 476 234 (.pointer (some ⟨c,0,none⟩)) "MayWrite").run prog w=.ok (280,.pointer (some ⟨c,0,none⟩)) w:=by kernel_rfl
theorem Ysc (c:Nat) (w:World):(method 476 224 (.pointer (some ⟨c,0,none⟩)) "MayWrite").run prog w=.ok (280,.pointer (some ⟨c,0,none⟩)) w:=by kernel_rfl
theorem Yzp (c:Nat) (w:World):(method 476 234 (.pointer (some ⟨c,0,none⟩)) "Write").run prog w=.ok (303,.pointer (some ⟨c,0,none⟩)) w:=by kernel_rfl
theorem Yzq (c:Nat) (w:World):(method 476 224 (.pointer (some ⟨c,0,none⟩)) "Write").run prog w=.ok (282,.pointer (some ⟨c,0,none⟩)) w:=by kernel_rfl
structure Ycu (w:World) (b0 b1 b2 b3 a kb:Nat) (k:TypeId) (t:Int) (key:ByteArray) (is:Bool) (val:ByteArray):Prop where
 h0:w.cell? ⟨b0,0,none⟩=some (.pointer (some ⟨a,0,none⟩))
 h1:w.cell? ⟨b1,0,none⟩=some (.int .i64 t)
 h2:w.cell? ⟨b2,0,none⟩=some (.string key)
 h3:w.heap[b3]? = some (.cells #[.bool is,.string val] 38 (0,0))
 ca:w.cell? ⟨a,2,none⟩=some (.iface k (.pointer (some ⟨kb,0,none⟩)))
theorem Ycu.below (h:Ycu w b0 b1 b2 b3 a kb k t key is val) (hb:Below w.heap.size w w'):Ycu w' b0 b1 b2 b3 a kb k t key is val:=
 ⟨(hb.cell (World.block_lt_of_cell? w _ h.h0)).trans h.h0,(hb.cell (World.block_lt_of_cell? w _ h.h1)).trans h.h1,(hb.cell (World.block_lt_of_cell? w _ h.h2)).trans h.h2,(hb.block _ (Yaj h.h3)).trans h.h3,(hb.cell (World.block_lt_of_cell? w _ h.ca)).trans h.ca⟩
theorem Ycu.drew (h:Ycu w b0 b1 b2 b3 a kb k t key is val):Ycu w.drew b0 b1 b2 b3 a kb k t key is val:=h.below (Below.refl _ w).drew
theorem Ysd (w:World) (b o:Nat) (v:Value) (cs:Array Value) (ty:TypeId) (fr:Nat×Nat) (h:w.heap[b]? = some (.cells cs ty fr)) (hv:cs[o]? = some v):w.setCell ⟨b,o,none⟩ v=w:=by
 have e:(w.setCell ⟨b,o,none⟩ v).heap=w.heap:=by
  apply Array.ext_getElem?;intro i;by_cases hi:i=b
  ·subst hi
   have:cs.setIfInBounds o v=cs:=by
    apply Array.ext_getElem?;intro j;by_cases hj:j=o
    ·subst hj
     rw [Array.getElem?_setIfInBounds_self_of_lt (Array.getElem?_eq_some_iff.1 hv).1,hv]
    ·exact Array.getElem?_setIfInBounds_ne (fun e=>hj e.symm)
   simp [World.setCell,Array.getElem?_modify,h,this]
  ·exact Below.heap_setCell _ _ _ _ hi
 cases w;simp only [World.setCell] at e ⊢;rw [e]
theorem Yzr (b0 b1 b2 b3 a kb:Nat) (t:Int) (key:ByteArray) (is:Bool) (val:ByteArray) (c:Int) (hc:c≠0) (w:World) (R:World→Prop) (hb:Ycu w b0 b1 b2 b3 a kb 234 t key is val)
 (KM:Calls prog 280 #[.pointer (some ⟨kb,0,none⟩),.int .i64 t,.string key,.agg #[.bool is,.string val]] w.drew fun e w'=>e=.returned (.int .i64 c)∧R w'∧Ycu w' b0 b1 b2 b3 a kb 234 t key is val):
 Calls prog 68 #[.pointer (some ⟨b0,0,none⟩),.pointer (some ⟨b1,0,none⟩),.pointer (some ⟨b2,0,none⟩),.pointer (some ⟨b3,0,none⟩)] w fun e w'=>e=.returned (.int .i64 c)∧R w':=by
 obtain ⟨h0,h1,h2,h3,ca⟩:=hb
 have h30:=Yaa (j:=0) h3 rfl
 have h31:=Yaa (j:=1) h3 rfl
 have hne:(c == 0)=false:=by simpa using hc
 have HKM:=Yh KM
 have hme:=Ysb
 clear KM h3
 go_enter func68,ntmps68
 go_wp2
 go_region_held3 (fun w'=>w'.cell? ⟨b0,0,none⟩=some (.pointer (some ⟨a,0,none⟩))∧w'.cell? ⟨b1,0,none⟩=some (.int .i64 t)∧w'.cell? ⟨b2,0,none⟩=some (.string key)∧w'.cell? ⟨b3,0,none⟩=some (.bool is)∧w'.cell? ⟨b3,1,none⟩=some (.string val)∧w'.cell? ⟨a,2,none⟩=some (.iface 234 (.pointer (some ⟨kb,0,none⟩))))
  (go_keep)
  (first
   | (go_at_call 280;go_must (
    refine HKM.out.mono ?_;rintro e w1 ⟨rfl,hr,hb1⟩;have HR:=Yh hr;have j0:=hb1.h0;have j1:=hb1.h1;have j2:=hb1.h2;have j30:=Yaa (j:=0) hb1.h3 rfl;have j31:=Yaa (j:=1) hb1.h3 rfl;have ja:=hb1.ca;clear hr hb1)))
 all_goals
  go_wp2;go_ret;exact ⟨rfl,HR.out⟩
theorem Yzs (b0 b1 b2 b3 a kb:Nat) (t:Int) (key:ByteArray) (hks:key.size≤281474976710656) (is:Bool) (val:ByteArray) (hvs:val.size≤281474976710656) (w:World) (R0 R:World→Prop) (hb:Ycu w b0 b1 b2 b3 a kb 234 t key is val) (hd:b0≠b3∧b1≠b3∧b2≠b3∧a≠b3)
 (KM:Calls prog 280 #[.pointer (some ⟨kb,0,none⟩),.int .i64 t,.string key,.agg #[.bool is,.string val]] w.drew fun e w'=>e=.returned (.int .i64 0)∧R0 w'∧Ycu w' b0 b1 b2 b3 a kb 234 t key is val)
 (KW:∀ w1 W,R0 w1→w1.heap.size≤W.heap.size→(∀ q,q<w1.heap.size→W.heap[q]? = w1.heap[q]?)→Below 0 w1 W→Calls prog 303 #[.pointer (some ⟨kb,0,none⟩),.int .i64 t,.string key,.agg #[.bool is,.string val]] W fun e w'=>e=.returned (.tuple #[])∧R w'∧Ycu w' b0 b1 b2 b3 a kb 234 t key is val):
 Calls prog 68 #[.pointer (some ⟨b0,0,none⟩),.pointer (some ⟨b1,0,none⟩),.pointer (some ⟨b2,0,none⟩),.pointer (some ⟨b3,0,none⟩)] w fun e w'=>e=.returned (.int .i64 0)∧R w':=by
 obtain ⟨h0,h1,h2,h3,ca⟩:=hb
 have h30:=Yaa (j:=0) h3 rfl
 have h31:=Yaa (j:=1) h3 rfl
 have HKM:=Yh KM
 have HKW:=Yh KW
 have KC:Hid (∀ W,Calls prog 45 #[.string val] W fun e w'=>e=.returned (.string val)∧Below W.heap.size W w'):=fun W=>Yiz val W hvs
 have KK:Hid (∀ W,Calls prog 45 #[.string key] W fun e w'=>e=.returned (.string key)∧Below W.heap.size W w'):=fun W=>Yiz key W hks
 have HD:=Yh hd
 have hme:=Ysb
 have hmw:=Yzp
 clear KM KW h3 hd
 have tok1:True:=trivial
 go_enter func68,ntmps68
 go_wp2
 go_region_held3 (fun w'=>w'.cell? ⟨b0,0,none⟩=some (.pointer (some ⟨a,0,none⟩))∧w'.cell? ⟨b1,0,none⟩=some (.int .i64 t)∧w'.cell? ⟨b2,0,none⟩=some (.string key)∧w'.cell? ⟨b3,0,none⟩=some (.bool is)∧w'.cell? ⟨b3,1,none⟩=some (.string val)∧w'.cell? ⟨a,2,none⟩=some (.iface 234 (.pointer (some ⟨kb,0,none⟩))))
  (go_keep)
  (first
   | (go_at_call 280;go_must (
    refine HKM.out.mono ?_;rintro e w1 ⟨rfl,hr,hb1⟩;have HR:=Yh hr;have HB1:=Yh hb1;have j0:=hb1.h0;have j1:=hb1.h1;have j2:=hb1.h2;have j30:=Yaa (j:=0) hb1.h3 rfl;have j31:=Yaa (j:=1) hb1.h3 rfl;have ja:=hb1.ca;clear hr hb1)))
 all_goals
  clear h0 h1 h2 h30 h31 ca;go_wp2_with (first
   | (have _t:=tok1;go_at_call 45;go_must (
    clear tok1;refine (KC.out _).mono ?_;rintro e w2 ⟨rfl,hb2⟩;have HBW:=Yh hb2;have hq2:w2.heap[b3]? = some (.cells #[.bool is,.string val] 38 (0,0)):=(hb2.block _ (Yaj HB1.out.h3)).trans HB1.out.h3;have x1:=Yaa (j:=1) hq2 rfl;have y1:=Yah 1 hq2;have hsame:=Ysd w2 b3 1 (.string val) _ _ _ hq2 rfl;have hB2:Ycu w2 b0 b1 b2 b3 a kb 234 t key is val:=HB1.out.below hb2;have HBO:Hid (∀ w3,Below w2.heap.size w2.drew w3→Ycu w3 b0 b1 b2 b3 a kb 234 t key is val):=fun w3 h=>hB2.drew.below h
    have u0:=hB2.h0;have u1:=hB2.h1;have u2:=hB2.h2;have u30:=Yaa (j:=0) hB2.h3 rfl;have ua:=hB2.ca;clear hb2 hq2 hB2)))
  go_region_held3 (fun w'=>w'.cell? ⟨b0,0,none⟩=some (.pointer (some ⟨a,0,none⟩))∧w'.cell? ⟨b1,0,none⟩=some (.int .i64 t)∧w'.cell? ⟨b2,0,none⟩=some (.string key)∧w'.cell? ⟨b3,0,none⟩=some (.bool is)∧w'.cell? ⟨b3,1,none⟩=some (.string val)∧w'.cell? ⟨a,2,none⟩=some (.iface 234 (.pointer (some ⟨kb,0,none⟩))))
   (go_keep)
   (first
    | (go_at_call 45;go_must (
     refine (KK.out _).mono ?_;rintro e w3 ⟨rfl,hb3⟩;have HBX:=Yh ((HBW.out.drew).trans (hb3.mono HBW.out.size));have hB3:=HBO.out w3 hb3;have z0:=hB3.h0;have z1:=hB3.h1;have z2:=hB3.h2;have z30:=Yaa (j:=0) hB3.h3 rfl;have z31:=Yaa (j:=1) hB3.h3 rfl;have za:=hB3.ca;clear hb3 hB3))
    | (go_at_call 303;go_must (
     refine (HKW.out w1 w3 HR.out HBX.out.size (fun q hq=>HBX.out.block q hq) (HBX.out.mono (Nat.zero_le _))).mono ?_;rintro e w4 ⟨rfl,hr4,hB4⟩;have HR4:=Yh hr4;have z0:=hB4.h0;have z1:=hB4.h1;have z2:=hB4.h2;have z30:=Yaa (j:=0) hB4.h3 rfl;have z31:=Yaa (j:=1) hB4.h3 rfl;have za:=hB4.ca;clear hr4 hB4)))
  all_goals
   go_wp2;go_ret;exact ⟨rfl,HR4.out⟩
theorem Yzt (b0 b1 b2 b3 a kb:Nat) (t:Int) (key:ByteArray) (is:Bool) (val:ByteArray) (c:Int) (hc:c≠0) (w:World) (R:World→Prop) (hb:Ycu w b0 b1 b2 b3 a kb 224 t key is val)
 (KM:Calls prog 280 #[.pointer (some ⟨kb,0,none⟩),.int .i64 t,.string key,.agg #[.bool is,.string val]] w.drew fun e w'=>e=.returned (.int .i64 c)∧R w'∧Ycu w' b0 b1 b2 b3 a kb 224 t key is val):
 Calls prog 68 #[.pointer (some ⟨b0,0,none⟩),.pointer (some ⟨b1,0,none⟩),.pointer (some ⟨b2,0,none⟩),.pointer (some ⟨b3,0,none⟩)] w fun e w'=>e=.returned (.int .i64 c)∧R w':=by
 obtain ⟨h0,h1,h2,h3,ca⟩:=hb
 have h30:=Yaa (j:=0) h3 rfl
 have h31:=Yaa (j:=1) h3 rfl
 have hne:(c == 0)=false:=by simpa using hc
 have HKM:=Yh KM
 have hme:=Ysc
 clear KM h3
 go_enter func68,ntmps68
 go_wp2
 go_region_held3 (fun w'=>w'.cell? ⟨b0,0,none⟩=some (.pointer (some ⟨a,0,none⟩))∧w'.cell? ⟨b1,0,none⟩=some (.int .i64 t)∧w'.cell? ⟨b2,0,none⟩=some (.string key)∧w'.cell? ⟨b3,0,none⟩=some (.bool is)∧w'.cell? ⟨b3,1,none⟩=some (.string val)∧w'.cell? ⟨a,2,none⟩=some (.iface 224 (.pointer (some ⟨kb,0,none⟩))))
  (go_keep)
  (first
   | (go_at_call 280;go_must (
    refine HKM.out.mono ?_;rintro e w1 ⟨rfl,hr,hb1⟩;have HR:=Yh hr;have j0:=hb1.h0;have j1:=hb1.h1;have j2:=hb1.h2;have j30:=Yaa (j:=0) hb1.h3 rfl;have j31:=Yaa (j:=1) hb1.h3 rfl;have ja:=hb1.ca;clear hr hb1)))
 all_goals
  go_wp2;go_ret;exact ⟨rfl,HR.out⟩
theorem Yzu (b0 b1 b2 b3 a kb:Nat) (t:Int) (key:ByteArray) (hks:key.size≤281474976710656) (is:Bool) (val:ByteArray) (hvs:val.size≤281474976710656) (w:World) (R0 R:World→Prop) (hb:Ycu w b0 b1 b2 b3 a kb 224 t key is val) (hd:b0≠b3∧b1≠b3∧b2≠b3∧a≠b3)
 (KM:Calls prog 280 #[.pointer (some ⟨kb,0,none⟩),.int .i64 t,.string key,.agg #[.bool is,.string val]] w.drew fun e w'=>e=.returned (.int .i64 0)∧R0 w'∧Ycu w' b0 b1 b2 b3 a kb 224 t key is val)
 (KW:∀ w1 W,R0 w1→w1.heap.size≤W.heap.size→(∀ q,q<w1.heap.size→W.heap[q]? = w1.heap[q]?)→Below 0 w1 W→Calls prog 282 #[.pointer (some ⟨kb,0,none⟩),.int .i64 t,.string key,.agg #[.bool is,.string val]] W fun e w'=>e=.returned (.tuple #[])∧R w'∧Ycu w' b0 b1 b2 b3 a kb 224 t key is val):
 Calls prog 68 #[.pointer (some ⟨b0,0,none⟩),.pointer (some ⟨b1,0,none⟩),.pointer (some ⟨b2,0,none⟩),.pointer (some ⟨b3,0,none⟩)] w fun e w'=>e=.returned (.int .i64 0)∧R w':=by
 obtain ⟨h0,h1,h2,h3,ca⟩:=hb
 have h30:=Yaa (j:=0) h3 rfl
 have h31:=Yaa (j:=1) h3 rfl
 have HKM:=Yh KM
 have HKW:=Yh KW
 have KC:Hid (∀ W,Calls prog 45 #[.string val] W fun e w'=>e=.returned (.string val)∧Below W.heap.size W w'):=fun W=>Yiz val W hvs
 have KK:Hid (∀ W,Calls prog 45 #[.string key] W fun e w'=>e=.returned (.string key)∧Below W.heap.size W w'):=fun W=>Yiz key W hks
 have HD:=Yh hd
 have hme:=Ysc
 have hmw:=Yzq
 clear KM KW h3 hd
 have tok1:True:=trivial
 go_enter func68,ntmps68
 go_wp2
 go_region_held3 (fun w'=>w'.cell? ⟨b0,0,none⟩=some (.pointer (some ⟨a,0,none⟩))∧w'.cell? ⟨b1,0,none⟩=some (.int .i64 t)∧w'.cell? ⟨b2,0,none⟩=some (.string key)∧w'.cell? ⟨b3,0,none⟩=some (.bool is)∧w'.cell? ⟨b3,1,none⟩=some (.string val)∧w'.cell? ⟨a,2,none⟩=some (.iface 224 (.pointer (some ⟨kb,0,none⟩))))
  (go_keep)
  (first
   | (go_at_call 280;go_must (
    refine HKM.out.mono ?_;rintro e w1 ⟨rfl,hr,hb1⟩;have HR:=Yh hr;have HB1:=Yh hb1;have j0:=hb1.h0;have j1:=hb1.h1;have j2:=hb1.h2;have j30:=Yaa (j:=0) hb1.h3 rfl;have j31:=Yaa (j:=1) hb1.h3 rfl;have ja:=hb1.ca;clear hr hb1)))
 all_goals
  clear h0 h1 h2 h30 h31 ca;go_wp2_with (first
   | (have _t:=tok1;go_at_call 45;go_must (
    clear tok1;refine (KC.out _).mono ?_;rintro e w2 ⟨rfl,hb2⟩;have HBW:=Yh hb2;have hq2:w2.heap[b3]? = some (.cells #[.bool is,.string val] 38 (0,0)):=(hb2.block _ (Yaj HB1.out.h3)).trans HB1.out.h3;have x1:=Yaa (j:=1) hq2 rfl;have y1:=Yah 1 hq2;have hsame:=Ysd w2 b3 1 (.string val) _ _ _ hq2 rfl;have hB2:Ycu w2 b0 b1 b2 b3 a kb 224 t key is val:=HB1.out.below hb2;have HBO:Hid (∀ w3,Below w2.heap.size w2.drew w3→Ycu w3 b0 b1 b2 b3 a kb 224 t key is val):=fun w3 h=>hB2.drew.below h
    have u0:=hB2.h0;have u1:=hB2.h1;have u2:=hB2.h2;have u30:=Yaa (j:=0) hB2.h3 rfl;have ua:=hB2.ca;clear hb2 hq2 hB2)))
  go_region_held3 (fun w'=>w'.cell? ⟨b0,0,none⟩=some (.pointer (some ⟨a,0,none⟩))∧w'.cell? ⟨b1,0,none⟩=some (.int .i64 t)∧w'.cell? ⟨b2,0,none⟩=some (.string key)∧w'.cell? ⟨b3,0,none⟩=some (.bool is)∧w'.cell? ⟨b3,1,none⟩=some (.string val)∧w'.cell? ⟨a,2,none⟩=some (.iface 224 (.pointer (some ⟨kb,0,none⟩))))
   (go_keep)
   (first
    | (go_at_call 45;go_must (
     refine (KK.out _).mono ?_;rintro e w3 ⟨rfl,hb3⟩;have HBX:=Yh ((HBW.out.drew).trans (hb3.mono HBW.out.size));have hB3:=HBO.out w3 hb3;have z0:=hB3.h0;have z1:=hB3.h1;have z2:=hB3.h2;have z30:=Yaa (j:=0) hB3.h3 rfl;have z31:=Yaa (j:=1) hB3.h3 rfl;have za:=hB3.ca;clear hb3 hB3))
    | (go_at_call 282;go_must (
     refine (HKW.out w1 w3 HR.out HBX.out.size (fun q hq=>HBX.out.block q hq) (HBX.out.mono (Nat.zero_le _))).mono ?_;rintro e w4 ⟨rfl,hr4,hB4⟩;have HR4:=Yh hr4;have z0:=hB4.h0;have z1:=hB4.h1;have z2:=hB4.h2;have z30:=Yaa (j:=0) hB4.h3 rfl;have z31:=Yaa (j:=1) hB4.h3 rfl;have za:=hB4.ca;clear hr4 hB4)))
  all_goals
   go_wp2;go_ret;exact ⟨rfl,HR4.out⟩
def Yfb (s:Sv) (n:Nat) (k:ByteArray):Prop:=(∃ p∈s.cont n,p.1=k)∨(Yae k=n∧∃ t x,s.tx t=some x∧Ybc x.H k=2)
def Ygt (s:Sv) (key:ByteArray):Prop:=∃ L:List ByteArray,L.Nodup∧(∀ k,k∈L↔Yfb s (Yae key) k)∧(key∈L∨L.length<4)
theorem Yse {α:Type} {L L':List α} (h:L.Nodup) (h':L'.Nodup) (e:∀ x,x∈L↔x∈L'):L.length=L'.length:=
 Nat.le_antisymm (h.length_le_of_subset fun x hx=>(e x).1 hx) (h'.length_le_of_subset fun x hx=>(e x).2 hx)
theorem Ysf (g:Yar s) (hh:Yao s q) (n:Nat) (k:ByteArray):Yke s.mo.M s.tabs n k↔Yae k=n∧∃ t x,s.tx t=some x∧Ybc x.H k=2:=by
 constructor
 ·rintro ⟨t,h1,h2,h3⟩
  rw [Yhl g] at h1;obtain ⟨x,hx⟩:=Option.isSome_iff_exists.1 h1;simp only [Sv.tabs,hx] at h2;exact ⟨h3,t,x,hx,by unfold Ybc;rw [h2];rfl⟩
 ·rintro ⟨h1,t,x,hx,h2⟩
  refine ⟨t,by rw [Yhl g,hx];rfl,?_,h1⟩;simp only [Sv.tabs,hx];rcases (hh t x hx).2.1 k with h3 | ⟨y,_,_,_,h3⟩
  ·unfold Ybc at h2;rw [h3] at h2;simp [Yi7] at h2
  ·unfold Ybc at h2;rw [h3] at h2;simp only [Yi7] at h2;subst h2;exact h3
theorem Yzv (g:Yar s) (hh:Yao s q) (n:Nat) {Kd:DataW Value} (h:Yhh (s.cont n) s.mo.M s.tabs n Kd):∃ L:List ByteArray,L.Nodup∧L.length=Maps.size Kd∧(∀ k,k∈L↔Maps.has Kd (lit k)=true)∧∀ k,k∈L↔Yfb s n k:=by
 obtain ⟨h1,h2,h3⟩:=h;obtain ⟨L,l1,l2,l3⟩:=h1.keys;refine ⟨L,l1,l2,l3,fun k=>(l3 k).trans ⟨fun hk=>?_,?_⟩⟩
 ·rcases h1.sound k hk with h4 | h4
  ·exact .inl h4
  ·exact .inr ((Ysf g hh n k).1 h4)
 ·rintro (⟨p,hp,rfl⟩ | h4)
  ·exact h2 p hp
  ·exact h3 k ((Ysf g hh n k).2 h4)
theorem Ysg (g:Yar s) (hh:Yao s q) (key:ByteArray) {Kd:DataW Value} (h:Yhh (s.cont (Yae key)) s.mo.M s.tabs (Yae key) Kd):(Maps.has Kd (lit key) || decide (Maps.size Kd<4))=true↔Ygt s key:=by
 obtain ⟨L,l1,l2,l3,l4⟩:=Yzv g hh _ h;rw [Bool.or_eq_true,decide_eq_true_eq,←l3,←l2];constructor
 ·intro hc
  exact ⟨L,l1,l4,hc⟩
 ·rintro ⟨L',m1,m2,m3⟩
  have e:∀ x,x∈L'↔x∈L:=fun x=>(m2 x).trans (l4 x).symm
  rw [←Yse m1 l1 e,←e];exact m3
structure Ylx (s:Sv) (t:Int) (key val:ByteArray):Prop where
 name:Ya8 (s.tx t).isSome key=0
 size:val.size≤12
 free:∀ u x,s.tx u=some x→u≠t→Ybc x.H key=0
 acts:s.acts<120
 room:Ygt s key
def Yja (s:Sv) (t:Int) (key val:ByteArray) (c:Int):Prop:=
 (Ya8 (s.tx t).isSome key≠0∧c=Ya8 (s.tx t).isSome key)∨(Ya8 (s.tx t).isSome key=0∧12<val.size∧c=7) ∨
 (Ya8 (s.tx t).isSome key=0∧val.size≤12∧(∃ u x,s.tx u=some x∧u≠t∧1≤Ybc x.H key)∧c=8) ∨
 (Ya8 (s.tx t).isSome key=0∧val.size≤12∧(∀ u x,s.tx u=some x→u≠t→Ybc x.H key≤0)∧(120≤s.acts∨¬Ygt s key)∧c=10)
theorem Yja.ne {c:Int} (h:Yja s t key val c):c≠0:=by
 rcases h with ⟨h1,rfl⟩ | ⟨_,_,rfl⟩ | ⟨_,_,_,rfl⟩ | ⟨_,_,_,_,rfl⟩
 ·exact h1
 all_goals omega
theorem Ysh (h:Yan w s) (g:Yar s) (hh:Yao s q) (hq:q≤2000000000000) (t:Int) (ht:Yax t) (key:ByteArray) (hks:key.size≤140737488355328) (is:Bool) (val:ByteArray) (hf:Ylx s t key val):
 Calls prog 280 #[.pointer (some ⟨s.kb,0,none⟩),.int .i64 t,.string key,.agg #[.bool is,.string val]] w fun e w'=>e=.returned (.int .i64 0)∧∃ s',Yau s s'∧Yab w w' s s':=by
 have hsz:=hf.size
 refine (Yr5 h g hh hq t ht key hks is val (by omega)).mono ?_
 rintro e w' ⟨c,s',rfl,h1,h2,h3⟩
 suffices c=0 by subst this;exact ⟨rfl,s',h1,h2⟩
 rcases h3 with ⟨h3,_⟩ | ⟨_,h3,_⟩ | ⟨_,_,m,⟨m1,m2,m3,m4⟩,h3⟩
 ·exact absurd hf.name h3
 ·omega
 ·have hm:m=0:=by
   rcases m4 with m4 | ⟨u,x,u1,u2,u3⟩
   ·exact m4
   ·rw [←u3];exact hf.free u x u1 u2
  rcases h3 with ⟨h3,_⟩ | ⟨_,h3,_⟩ | ⟨_,_,Kd,h3,rfl⟩
  ·omega
  ·have:=hf.acts;omega
  ·rw [if_pos ((Ysg g hh key h3).2 hf.room)]
theorem Yzw (h:Yan w s) (g:Yar s) (hh:Yao s q) (hq:q≤2000000000000) (t:Int) (ht:Yax t) (key:ByteArray) (hks:key.size≤140737488355328) (is:Bool) (val:ByteArray) (hvs:val.size≤140737488355328) (c:Int) (hf:Yja s t key val c):
 Calls prog 280 #[.pointer (some ⟨s.kb,0,none⟩),.int .i64 t,.string key,.agg #[.bool is,.string val]] w fun e w'=>e=.returned (.int .i64 c)∧∃ s',Yau s s'∧Yab w w' s s':=by
 refine (Yr5 h g hh hq t ht key hks is val hvs).mono ?_
 rintro e w' ⟨c',s',rfl,h1,h2,h3⟩
 suffices c'=c by subst this;exact ⟨rfl,s',h1,h2⟩
 rcases h3 with ⟨h3,rfl⟩ | ⟨h4,h3,rfl⟩ | ⟨h4,h5,m,⟨m1,m2,m3,m4⟩,h3⟩
 ·rcases hf with ⟨_,rfl⟩ | ⟨a,_⟩ | ⟨a,_⟩ | ⟨a,_⟩
  ·rfl
  all_goals exact absurd a h3
 ·rcases hf with ⟨a,_⟩ | ⟨_,_,rfl⟩ | ⟨_,a,_⟩ | ⟨_,a,_⟩
  ·exact absurd h4 a
  ·rfl
  all_goals omega
 ·rcases hf with ⟨a,_⟩ | ⟨_,a,_⟩ | ⟨_,_,⟨u,x,u1,u2,u3⟩,rfl⟩ | ⟨_,_,a,b,rfl⟩
  ·exact absurd h4 a
  ·omega
  ·have:=m3 u x u1 u2
   rcases h3 with ⟨_,rfl⟩ | ⟨h3,_⟩ | ⟨h3,_⟩
   ·rfl
   all_goals omega
  ·have hm:m=0:=by
    rcases m4 with m4 | ⟨u,x,u1,u2,u3⟩
    ·exact m4
    ·have:=a u x u1 u2;omega
   rcases h3 with ⟨h3,_⟩ | ⟨_,_,rfl⟩ | ⟨_,h6,Kd,h3,rfl⟩
   ·omega
   ·rfl
   ·rcases b with b | b
    ·omega
    ·rw [if_neg (fun hc=>b ((Ysg g hh key h3).1 hc))]
theorem Ycu.goes (h:Ycu W b0 b1 b2 b3 a kb k t key is val) (hg:Yab W w' s s') (hn:∀ b∈[b0,b1,b2,b3,a],∀ tag,s.blk tag≠some b):Ycu w' b0 b1 b2 b3 a kb k t key is val:=
 ⟨(World.cell?_of_block (hg.off b0 (World.block_lt_of_cell? W _ h.h0) (hn b0 (by simp)))).trans h.h0,(World.cell?_of_block (hg.off b1 (World.block_lt_of_cell? W _ h.h1) (hn b1 (by simp)))).trans h.h1,(World.cell?_of_block (hg.off b2 (World.block_lt_of_cell? W _ h.h2) (hn b2 (by simp)))).trans h.h2,
  (hg.off b3 (Yaj h.h3) (hn b3 (by simp))).trans h.h3,(World.cell?_of_block (hg.off a (World.block_lt_of_cell? W _ h.ca) (hn a (by simp)))).trans h.ca⟩
def Yzx (w:World) (s:Sv) (a:Nat) (k:TypeId) (t:Int) (key:ByteArray) (is:Bool) (val:ByteArray) (Q:Int→Sv→Prop):Prop:=
 ∀ W b0 b1 b2 b3,Below w.heap.size w W→Ycu W b0 b1 b2 b3 a s.kb k t key is val→(b0≠b3∧b1≠b3∧b2≠b3∧a≠b3)→(∀ b∈[b0,b1,b2,b3],w.heap.size≤b) →
  Calls prog 68 #[.pointer (some ⟨b0,0,none⟩),.pointer (some ⟨b1,0,none⟩),.pointer (some ⟨b2,0,none⟩),.pointer (some ⟨b3,0,none⟩)] W fun e w'=>∃ x s',e=.returned (.int .i64 x)∧Q x s'∧Yab W w' s s'
theorem Yn5 (h:Yan w s) (a:Nat) (haw:a<w.heap.size) (k:TypeId) (ca:w.cell? ⟨a,2,none⟩=some (.iface k (.pointer (some ⟨s.kb,0,none⟩)))) (t:Int) (key:ByteArray) (is:Bool) (val:ByteArray) (Q:Int→Sv→Prop) (KD:Yzx w s a k t key is val Q):
 Calls prog 42 #[.pointer (some ⟨a,0,none⟩),.int .i64 t,.string key,.agg #[.bool is,.string val]] w fun e w'=>∃ x s',e=.returned (.int .i64 x)∧Q x s'∧Yab w w' s s':=by
 obtain ⟨W4,hW4⟩:∃ W4,W4=(((w.alloc (.cells #[.pointer (some ⟨a,0,none⟩)] 26)).alloc (.cells #[.int .i64 t] 3)).alloc (.cells #[.string key] 9)).alloc (.cells #[.bool is,.string val] 38):=⟨_,rfl⟩
 have hz:W4.heap.size=w.heap.size+4:=by rw [hW4];simp
 have hb4:Below w.heap.size w W4:=by rw [hW4];exact ((((Below.refl _ w).alloc (Nat.le_refl _) _).alloc (by simp) _).alloc (by simp;omega) _).alloc (by simp;omega) _
 have g0:W4.heap[w.heap.size]? = some (.cells #[.pointer (some ⟨a,0,none⟩)] 26 (0,0)):=by
  rw [hW4,Below.heap_alloc _ _ _ (by simp;omega),Below.heap_alloc _ _ _ (by simp;omega),Below.heap_alloc _ _ _ (by simp)];exact heap_alloc_new _ _
 have g1:W4.heap[w.heap.size+1]? = some (.cells #[.int .i64 t] 3 (0,0)):=by
  rw [hW4,Below.heap_alloc _ _ _ (by simp;try omega),Below.heap_alloc _ _ _ (by simp)];simpa using heap_alloc_new (w.alloc (.cells #[.pointer (some ⟨a,0,none⟩)] 26)) _
 have g2:W4.heap[w.heap.size+2]? = some (.cells #[.string key] 9 (0,0)):=by
  rw [hW4,Below.heap_alloc _ _ _ (by simp)];simpa using heap_alloc_new ((w.alloc (.cells #[.pointer (some ⟨a,0,none⟩)] 26)).alloc (.cells #[.int .i64 t] 3)) _
 have g3:W4.heap[w.heap.size+3]? = some (.cells #[.bool is,.string val] 38 (0,0)):=by
  rw [hW4];simpa using heap_alloc_new (((w.alloc (.cells #[.pointer (some ⟨a,0,none⟩)] 26)).alloc (.cells #[.int .i64 t] 3)).alloc (.cells #[.string key] 9)) _
 have ca4:W4.cell? ⟨a,2,none⟩=some (.iface k (.pointer (some ⟨s.kb,0,none⟩))):=(hb4.cell haw).trans ca
 have KA:Hid (Calls prog 53 #[.pointer (some ⟨a,0,none⟩),.func (.func 68) #[] #[.pointer (some ⟨w.heap.size,0,none⟩),.pointer (some ⟨w.heap.size+1,0,none⟩),.pointer (some ⟨w.heap.size+2,0,none⟩),.pointer (some ⟨w.heap.size+3,0,none⟩)]] W4 fun e w'=>∃ x s',e=.returned (.int .i64 x)∧Q x s'∧Yab w w' s s'):=by
  refine (Ymz a k _ 68 _ W4 (fun x w'=>∃ W s',Below w.heap.size w W∧W.heap.size=W4.heap.size+2∧Q x s'∧Yab W w' s s') ca4 ?_ (fun args w=>rfl)).mono ?_
  ·intro o1 o2
   have hb5:Below W4.heap.size W4 (W4.alloc o1):=(Below.refl _ W4).alloc (Nat.le_refl _) _;have hb6:Below W4.heap.size W4 ((W4.alloc o1).alloc o2):=hb5.alloc (by simp) _;have hbw:Below w.heap.size w ((W4.alloc o1).alloc o2):=hb4.trans (hb6.mono (by omega));have hbox:Ycu ((W4.alloc o1).alloc o2) w.heap.size (w.heap.size+1) (w.heap.size+2) (w.heap.size+3) a s.kb k t key is val:=
    Ycu.below ⟨Yaa (j:=0) g0 rfl,Yaa (j:=0) g1 rfl,Yaa (j:=0) g2 rfl,g3,ca4⟩ hb6
   refine (KD _ _ _ _ _ hbw hbox ⟨by omega,by omega,by omega,by omega⟩ (by simp)).mono ?_;rintro e w' ⟨x,s',rfl,h1,h2⟩;refine ⟨x,rfl,?_,_,s',hbw,by simp,h1,h2⟩;exact ((h2.own h (q:=W4.heap.size+1) (by omega) (by simp)).1).trans (by simpa using heap_alloc_new (W4.alloc o1) o2)
  ·rintro e w' ⟨x,w1,rfl,⟨W,s',h1,h2,h3,h4⟩,rfl⟩
   refine ⟨x,s',rfl,h3,Yab.wrap h h1 h4 (fun q _ hq=>?_) ((Below.refl _ _).setCell (p:=⟨W4.heap.size+1,0,none⟩) (by simp) _)⟩;exact Below.heap_setCell _ _ _ _ (by show q≠W4.heap.size+1;omega)
 clear KD h ca ca4 g0 g1 g2 g3 hb4
 have hmf:∀ (fn:Fn) (first cap:Array Value) (w:World),(Instr.makeFunc fn first cap).run prog w=.ok (.func fn first cap) w:=fun _ _ _ _=>rfl
 subst hW4
 generalize Yab w=GO at KA ⊢
 go_enter func42,ntmps42
 go_wp2_with (first
  | (go_at_call 53;go_must (
   refine KA.out.mono ?_;rintro e w1 ⟨x,s',rfl,h1,h2⟩;have HX:Hid (Q x s'∧GO w1 s s'):=⟨h1,h2⟩;clear h1 h2)))
 go_ret
 exact ⟨x,s',rfl,HX.out⟩
def Cap (s:Sv):Prop:=∀ n,n<8→∃ L:List ByteArray,L.length≤4∧∀ k,Yfb s n k→k∈L
theorem Yjb {ps:Yaf} (h:Ybi ps):(ps.map (·.1)).Nodup:=by
 have h1:=Ygr.1 h;rw [List.nodup_iff_pairwise_ne,List.pairwise_map];exact h1.imp (fun {a b} hab e=>Yej hab e)
theorem Yzy (g:Yar s) (hc:Cap s) (key:ByteArray) (hr:Ygt s key) (is:Bool) (val:ByteArray):(Yaw (s.cont (Yae key)) key is val).length≤4:=by
 obtain ⟨r1,r2,r3⟩:=g.rise _ (Ycy key);have hn:=Yjb (Yfo r1 key is val);have hk:∀ k∈(Yaw (s.cont (Yae key)) key is val).map (·.1),k=key∨Yfb s (Yae key) k:=fun k hk=>by
  obtain ⟨p,hp,rfl⟩:=List.mem_map.1 hk;rcases Yhk r1 key is val hp with h1 | ⟨_,h1⟩
  ·exact .inr (.inl ⟨p,h1,rfl⟩)
  ·exact .inl (by rw [h1])
 rw [←List.length_map (f:=(·.1))];obtain ⟨L,l1,l2,l3⟩:=hr;rcases l3 with l3 | l3
 ·obtain ⟨L',m1,m2⟩:=hc _ (Ycy key)
  refine Nat.le_trans (hn.length_le_of_subset (l₂:=L') fun k hk'=>?_) m1;rcases hk k hk' with rfl | h
  ·exact m2 _ ((l2 _).1 l3)
  ·exact m2 _ h
 ·refine Nat.le_trans (hn.length_le_of_subset (l₂:=key :: L) fun k hk'=>?_) (by simp;omega)
  rcases hk k hk' with rfl | h
  ·simp
  ·exact List.mem_cons_of_mem _ ((l2 _).2 h)
structure Yc5 (w:World) (a:Nat) (k:TypeId) (s:Sv) (q:Nat):Prop where
 lies:Yan w s
 good:Yar s
 held:Yao s q
 cap:Cap s
 haw:a<w.heap.size
 hao:∀ tag,s.blk tag≠some a
 ca:w.cell? ⟨a,2,none⟩=some (.iface k (.pointer (some ⟨s.kb,0,none⟩)))
theorem Yc5.go {q':Nat} (h:Yc5 w a k s q) (g:Yab w w' s s') (hh:Yao s' q') (hc:Cap s') (hk:s'.kb=s.kb):Yc5 w' a k s' q':=
 ⟨g.lies,g.good,hh,hc,by have:=g.below.size;have:=h.haw;omega,fun tag ht=>by
  rcases g.grown tag a ht with h1 | h1
  ·exact h.hao tag h1
  ·have:=h.haw;omega,by rw [hk];exact (World.cell?_of_block (g.off a h.haw h.hao)).trans h.ca⟩
theorem Yau.roomy (h:Yau s s') (key:ByteArray):Ygt s' key↔Ygt s key:=by
 obtain ⟨P,m,rfl,_⟩:=h;exact Iff.rfl
theorem Yau.cap (h:Yau s s') (hc:Cap s):Cap s':=by
 obtain ⟨P,m,rfl,_⟩:=h;exact hc
theorem Yn6 (h:Yan w s) {a:Nat} (ha:∀ tag,s.blk tag≠some a) {b0 b1 b2 b3:Nat} (hb:∀ b∈[b0,b1,b2,b3],w.heap.size≤b):∀ b∈[b0,b1,b2,b3,a],∀ tag,s.blk tag≠some b:=fun b hb' tag ht=>by
 have:b∈[b0,b1,b2,b3]∨b=a:=by simp at hb' ⊢;omega
 rcases this with h1 | rfl
 ·have:=hb b h1;have:=h.lt tag b ht;omega
 ·exact ha tag ht
theorem Yzz (k:Bool) (L:Yc5 w a (Yb8 k) s q) (hq:q≤2000000000000) (t:Int) (ht:Yax t) (key:ByteArray) (hks:key.size≤140737488355328) (is:Bool) (val:ByteArray) (hvs:val.size≤140737488355328) (c:Int) (hf:Yja s t key val c):
 Calls prog 42 #[.pointer (some ⟨a,0,none⟩),.int .i64 t,.string key,.agg #[.bool is,.string val]] w fun e w'=>∃ s',e=.returned (.int .i64 c)∧Yau s s'∧Yab w w' s s':=by
 refine (Yn5 L.lies a L.haw (Yb8 k) L.ca t key is val (fun x s'=>x=c∧Yau s s') ?_).mono ?_
 ·intro W b0 b1 b2 b3 hb hbox hd hw
  have hWd:Below w.heap.size w W.drew:=hb.drew;have hnp:=Yn6 L.lies L.hao hw;have hgd:Yab W W.drew s s:=Yab.of_below (L.lies.below hb) L.good (Below.refl _ W).drew;have KM:=(Yzw (L.lies.below hWd) L.good L.held hq t ht key hks is val hvs c hf).mono (R':=fun e w'=>e=.returned (.int .i64 c)∧(∃ s',Yau s s'∧Yab W w' s s')∧Ycu w' b0 b1 b2 b3 a s.kb (Yb8 k) t key is val) (by
   rintro e w' ⟨h1,s',h2,h3⟩;have h4:=hgd.trans h3;exact ⟨h1,⟨s',h2,h4⟩,hbox.goes h4 hnp⟩)
  cases k with
  | true=>
   refine (Yzr b0 b1 b2 b3 a s.kb t key is val c hf.ne W _ hbox KM).mono ?_;rintro e w' ⟨h1,s',h2,h3⟩;exact ⟨c,s',h1,⟨rfl,h2⟩,h3⟩
  | false=>
   refine (Yzt b0 b1 b2 b3 a s.kb t key is val c hf.ne W _ hbox KM).mono ?_;rintro e w' ⟨h1,s',h2,h3⟩;exact ⟨c,s',h1,⟨rfl,h2⟩,h3⟩
 ·rintro e w' ⟨x,s',h1,⟨rfl,h2⟩,h3⟩
  exact ⟨s',h1,h2,h3⟩
theorem Yz0 (L:Yc5 w a 234 s q) (hq:q≤1999999999999) (hlen:s.len≤390) (t:Int) (ht:0≤t∧t<256) (x:TxE) (hx:s.tx t=some x) (hlast:x.last≤s.len) (key:ByteArray) (hks:key.size≤8) (is:Bool) (val:ByteArray) (hf:Ylx s t key val) (hnv:is=false→val.size=0):
 Calls prog 42 #[.pointer (some ⟨a,0,none⟩),.int .i64 t,.string key,.agg #[.bool is,.string val]] w fun e w'=>e=.returned (.int .i64 0)∧∃ s1 s',Yau s s1∧Yid s1 s' t x key is val∧Yab w w' s s'∧Yao s' (q+1):=by
 have hti:Yax t:=⟨by omega,by omega⟩
 have hvs:=hf.size
 refine (Yn5 L.lies a L.haw 234 L.ca t key is val (fun c s'=>c=0∧∃ s1,Yau s s1∧Yid s1 s' t x key is val∧Yao s' (q+1)) ?_).mono ?_
 ·intro W b0 b1 b2 b3 hb hbox hd hw
  have hWd:Below w.heap.size w W.drew:=hb.drew;have hnp:=Yn6 L.lies L.hao hw;have hgd:Yab W W.drew s s:=Yab.of_below (L.lies.below hb) L.good (Below.refl _ W).drew;refine (Yzs b0 b1 b2 b3 a s.kb t key (by omega) is val (by omega) W (fun w'=>∃ s1,Yau s s1∧Yab W w' s s1) (fun w'=>∃ s',(∃ s1,Yau s s1∧Yid s1 s' t x key is val∧Yao s' (q+1))∧Yab W w' s s') hbox hd ?_ ?_).mono ?_
  ·refine (Ysh (L.lies.below hWd) L.good L.held (by omega) t hti key (by omega) is val hf).mono ?_
   rintro e w' ⟨h1,s',h2,h3⟩;have h4:=hgd.trans h3;exact ⟨h1,⟨s',h2,h4⟩,hbox.goes h4 hnp⟩
  ·rintro w1 W' ⟨s1,h1,h2⟩ hz hk hb0
   have h3:Yab W W' s s1:=h2.trans (Yab.of_below h2.lies h2.good ⟨hb0.os,hb0.tape,hb0.output,hz,hk⟩);have h1':=h1;obtain ⟨P,m,rfl,hm⟩:=h1';refine (Yyo h3.lies h3.good (h1.held L.held) hq hf.acts hlen t ht x hx hlast key hks is val hvs hnv (Yzy h3.good (h1.cap L.cap) key ((h1.roomy key).2 hf.room) is val)).mono ?_;rintro e w' ⟨k1,s',k2,k3,k4⟩;exact ⟨k1,⟨s',⟨_,h1,k2,k4⟩,h3.trans k3⟩,hbox.goes (h3.trans k3) hnp⟩
  ·rintro e w' ⟨h1,s',h2,h3⟩
   exact ⟨0,s',h1,⟨rfl,h2⟩,h3⟩
 ·rintro e w' ⟨c,s',h1,⟨rfl,s1,h2,h3,h4⟩,h5⟩
  exact ⟨h1,s1,s',h2,h3,h5,h4⟩
theorem Yau.made (h:Yau s s') {md:Ybh} (hm:Ya7 s md):Ya7 s' md:=by
 obtain ⟨P,m,rfl,_⟩:=h;exact ⟨hm.made,hm.have',hm.lack,hm.cells,hm.num⟩
theorem Yz1 (L:Yc5 w a 224 s q) (hm:Ya7 s md) (hq:q≤1999999999999) (t:Int) (hti:Yax t) (x:TxE) (hx:s.tx t=some x) (key:ByteArray) (hks:key.size≤8) (is:Bool) (val:ByteArray) (hf:Ylx s t key val):
 Calls prog 42 #[.pointer (some ⟨a,0,none⟩),.int .i64 t,.string key,.agg #[.bool is,.string val]] w fun e w'=>e=.returned (.int .i64 0)∧∃ s1 s',Yau s s1∧Ygs s1 s' md t x key is val∧Yab w w' s s'∧Yao s' (q+1):=by
 have hvs:=hf.size
 refine (Yn5 L.lies a L.haw 224 L.ca t key is val (fun c s'=>c=0∧∃ s1,Yau s s1∧Ygs s1 s' md t x key is val∧Yao s' (q+1)) ?_).mono ?_
 ·intro W b0 b1 b2 b3 hb hbox hd hw
  have hWd:Below w.heap.size w W.drew:=hb.drew;have hnp:=Yn6 L.lies L.hao hw;have hgd:Yab W W.drew s s:=Yab.of_below (L.lies.below hb) L.good (Below.refl _ W).drew;refine (Yzu b0 b1 b2 b3 a s.kb t key (by omega) is val (by omega) W (fun w'=>∃ s1,Yau s s1∧Yab W w' s s1) (fun w'=>∃ s',(∃ s1,Yau s s1∧Ygs s1 s' md t x key is val∧Yao s' (q+1))∧Yab W w' s s') hbox hd ?_ ?_).mono ?_
  ·refine (Ysh (L.lies.below hWd) L.good L.held (by omega) t hti key (by omega) is val hf).mono ?_
   rintro e w' ⟨h1,s',h2,h3⟩;have h4:=hgd.trans h3;exact ⟨h1,⟨s',h2,h4⟩,hbox.goes h4 hnp⟩
  ·rintro w1 W' ⟨s1,h1,h2⟩ hz hk hb0
   have h3:Yab W W' s s1:=h2.trans (Yab.of_below h2.lies h2.good ⟨hb0.os,hb0.tape,hb0.output,hz,hk⟩);have h1':=h1;obtain ⟨P,m,rfl,hm'⟩:=h1';refine (Yyx h3.lies h3.good (h1.held L.held) (h1.made hm) hq hf.acts t hti x hx key hks is val hvs).mono ?_;rintro e w' ⟨k1,s',k2,k3,k4⟩;exact ⟨k1,⟨s',⟨_,h1,k2,k4⟩,h3.trans k3⟩,hbox.goes (h3.trans k3) hnp⟩
  ·rintro e w' ⟨h1,s',h2,h3⟩
   exact ⟨0,s',h1,⟨rfl,h2⟩,h3⟩
 ·rintro e w' ⟨c,s',h1,⟨rfl,s1,h2,h3,h4⟩,h5⟩
  exact ⟨h1,s1,s',h2,h3,h5,h4⟩
theorem Yz2 (a:Nat) (t:Int) (key val:ByteArray) (w:World) (R:Int→World→Prop) (K:Calls prog 42 #[.pointer (some ⟨a,0,none⟩),.int .i64 t,.string key,.agg #[.bool true,.string val]] w fun e w'=>∃ c,e=.returned (.int .i64 c)∧R c w'):
 Calls prog 20 #[.pointer (some ⟨a,0,none⟩),.int .i64 t,.string key,.string val] w fun e w'=>∃ c,e=.returned (.int .i64 c)∧R c w':=by
 have HK:=Yh K
 clear K
 go_enter func20,ntmps20
 go_wp2_with (first
  | (go_at_call 42;go_must (refine HK.out.mono ?_;rintro e w' ⟨c,rfl,hr⟩;have HR:=Yh hr;clear hr)))
 go_ret
 exact ⟨c,rfl,HR.out⟩
theorem Yz3 (a:Nat) (t:Int) (key:ByteArray) (w:World) (R:Int→World→Prop) (K:Calls prog 42 #[.pointer (some ⟨a,0,none⟩),.int .i64 t,.string key,.agg #[.bool false,.string ByteArray.empty]] w fun e w'=>∃ c,e=.returned (.int .i64 c)∧R c w'):
 Calls prog 24 #[.pointer (some ⟨a,0,none⟩),.int .i64 t,.string key] w fun e w'=>∃ c,e=.returned (.int .i64 c)∧R c w':=by
 have HK:=Yh K
 clear K
 go_enter func24,ntmps24
 go_wp2_with (first
  | (go_at_call 42;go_must (refine HK.out.mono ?_;rintro e w' ⟨c,rfl,hr⟩;have HR:=Yh hr;clear hr)))
 go_ret
 exact ⟨c,rfl,HR.out⟩
end Go.Proofs.YtihbngfbcnojcaaGreat
