import Derived.Test.YtihbngfbcnojcaaGreatActC19
set_option maxRecDepth 100000
set_option maxHeartbeats 8000000
namespace Go.Proofs.YtihbngfbcnojcaaGreat
open Go.RowKit Tryz
variable {k:Bool} {hs:List (Nat×Yav)} {xs:List Value} {B N a b cap g gb gb' hb i mb n pb q:Nat} {F F1 G:Nat→Prop} {P PM PS:Sp} {v v0 vb ve vp vps vps':Value} {W w w' w1 w2:World} {h:Yav}
def Ygi (w:World) (h:Yav):Prop:=(∀ g,h.vp.ownBlock=some g→∃ cs,w.heap[g]? = some (.cells cs 43 (0,0)))∧(∀ g,h.ve.ownBlock=some g→∃ cs,w.heap[g]? = some (.cells cs 152 (0,0)))∧∀ g,h.vb.ownBlock=some g→∃ cs,w.heap[g]? = some (.cells cs 5 (0,0))
def Ycf (x:Nat×Yav) (g:Nat):Prop:=g=x.1∨x.2.vp.ownBlock=some g∨x.2.ve.ownBlock=some g∨x.2.vb.ownBlock=some g
theorem Ygi.frame (H:Ygi w h) (hk:∀ g,(h.vp.ownBlock=some g∨h.ve.ownBlock=some g∨h.vb.ownBlock=some g)→w'.heap[g]? = w.heap[g]?):Ygi w' h:=
 ⟨fun g hg=>by rw [hk g (.inl hg)];exact H.1 g hg,fun g hg=>by rw [hk g (.inr (.inl hg))];exact H.2.1 g hg,fun g hg=>by rw [hk g (.inr (.inr hg))];exact H.2.2 g hg⟩
theorem Ydv.typ {base:Nat} (H:Ydv w hb h base):Ygi w h:=by
 obtain ⟨y1,a1,_⟩:=H.rp;obtain ⟨y2,b1,_⟩:=H.re;obtain ⟨y3,c1,_⟩:=H.rb;exact ⟨fun g hg=>Ydf a1 hg,fun g hg=>Ydf b1 hg,fun g hg=>Ydf c1 hg⟩
theorem Yij {x:Nat×Yav} {cs:Array Value} {e:TypeId} {fz:Nat×Nat} (H:Ydl w x.1 x.2) (T:Ygi w x.2) (hg:w.heap[g]? = some (.cells cs e fz)) (he:e≠150∧e≠43∧e≠152∧e≠5):¬Ycf x g:=by
 rintro (hp | hp | hp | hp)
 ·have h1:=H.cell
  rw [←hp,hg] at h1;simp only [Option.some.injEq,Obj.cells.injEq] at h1;exact he.1 h1.2.1
 ·obtain ⟨c,h1⟩:=T.1 g hp
  rw [hg] at h1;simp only [Option.some.injEq,Obj.cells.injEq] at h1;exact he.2.1 h1.2.1
 ·obtain ⟨c,h1⟩:=T.2.1 g hp
  rw [hg] at h1;simp only [Option.some.injEq,Obj.cells.injEq] at h1;exact he.2.2.1 h1.2.1
 ·obtain ⟨c,h1⟩:=T.2.2 g hp
  rw [hg] at h1;simp only [Option.some.injEq,Obj.cells.injEq] at h1;exact he.2.2.2 h1.2.1
theorem Yme {x:Nat×Yav} (H:Ydl w x.1 x.2) (g:Nat) (hp:Ycf x g):g<w.heap.size:=by
 rcases hp with hp | hp | hp | hp
 ·rw [hp];exact Yaz H.cell
 ·exact H.rp.lt g hp
 ·exact H.re.lt g hp
 ·exact H.rb.lt g hp
def Y40 (x:Nat×Yav):Value:=.pointer (some ⟨x.1,0,none⟩)
structure Ycn (w:World) (b:Nat) (v vps:Value) (hs:List (Nat×Yav)) (G:Nat→Prop):Prop where
 blk:w.heap[b]? = some (.cells #[v,vps] 77 (0,0))
 row:w.ownsRow 0 120 1 v hs.length (hs.map Y40)
 each:∀ x∈hs,Ydl w x.1 x.2
 typ:∀ x∈hs,Ygi w x.2
 gb:G b
 gv:∀ g,v.ownBlock=some g→G g
 gx:∀ x∈hs,∀ g,Ycf x g→G g
 lt:∀ g,G g→g<w.heap.size
theorem Ycn.at' (H:Ycn w b v vps hs G) (hl:hs.length≤100000000000000):Yuh w b v hs:=by
 refine ⟨Yaa (j:=0) H.blk rfl,?_,H.each,hl⟩;rcases H.row.2 with ⟨h1,h2⟩ | ⟨g,cap,cur,h1,_⟩
 ·exact .inl ⟨h1,List.length_eq_zero_iff.1 h2⟩
 ·refine .inr ⟨g,cap,h1,fun i x hx=>?_⟩
  have h2:=H.row;rw [h1] at h2;exact Yal h2 (by rw [List.getElem?_map,hx];rfl)
theorem Ycn.frame (H:Ycn w b v vps hs G) (hk:∀ x,G x→w'.heap[x]? = w.heap[x]?) (hz:w.heap.size≤w'.heap.size):Ycn w' b v vps hs G:=
 ⟨(hk b H.gb).trans H.blk,Yas H.row (fun g hg=>hk g (H.gv g hg)),fun x hx=>(H.each x hx).frame (fun g hg=>hk g (H.gx x hx g hg)) hz,fun x hx=>(H.typ x hx).frame (fun g hg=>hk g (H.gx x hx g (.inr hg))),H.gb,H.gv,H.gx,fun g hg=>by have:=H.lt g hg;omega⟩
theorem Ycn.grow {G':Nat→Prop} (H:Ycn w b v vps hs G) (hg:∀ x,G x→G' x) (hl:∀ x,G' x→x<w.heap.size):Ycn w b v vps hs G':=
 ⟨H.blk,H.row,H.each,H.typ,hg _ H.gb,fun g h=>hg g (H.gv g h),fun x hx g h=>hg g (H.gx x hx g h),hl⟩
theorem Y41:(prog.info? 120).map (fun i=>(i.zero,i.size,i.bytes))=some (some (.pointer none),1,8):=by kernel_rfl
theorem Yuk (H:Ycn w b v vps hs G) (hh:Ydl w gb h) (ht:Ygi w h) (hG:∀ g,Ycf (gb,h) g→G g) (hl:hs.length≤10000000000000) (ty:TypeId):
 ∃ g cap w4,(Builtin.append_ #[74,74] ty #[v,.slice (some ⟨w.heap.size,0,none⟩) 1 1]).run prog (w.alloc (.cells #[.pointer (some ⟨gb,0,none⟩)] 120))=.ok (.slice (some ⟨g,0,none⟩) (hs.length+1) cap) w4 ∧
  w4.heap[b]? = some (.cells #[v,vps] 77 (0,0)) ∧
  Ycn (w4.setCell ⟨b,0,none⟩ (.slice (some ⟨g,0,none⟩) (hs.length+1) cap)) b (.slice (some ⟨g,0,none⟩) (hs.length+1) cap) vps (hs ++ [(gb,h)]) (Ycx G w (w4.setCell ⟨b,0,none⟩ (.slice (some ⟨g,0,none⟩) (hs.length+1) cap))) ∧
  Below 0 w (w4.setCell ⟨b,0,none⟩ (.slice (some ⟨g,0,none⟩) (hs.length+1) cap)) ∧
  ∀ x,x<w.heap.size→x≠b→v.ownBlock≠some x→(w4.setCell ⟨b,0,none⟩ (.slice (some ⟨g,0,none⟩) (hs.length+1) cap)).heap[x]? = w.heap[x]?:=by
 obtain ⟨i0,hi,hz0,hz1,hz2⟩:=info_parts Y41
 obtain ⟨W3,hW3⟩:∃ W3,W3=w.alloc (.cells #[.pointer (some ⟨gb,0,none⟩)] 120):=⟨_,rfl⟩
 have hB3:Below w.heap.size w W3:=by rw [hW3];exact (Below.refl _ _).alloc (Nat.le_refl _) _
 have hN3:W3.heap[w.heap.size]? = some (.cells #[.pointer (some ⟨gb,0,none⟩)] 120 (0,0)):=by rw [hW3];exact heap_alloc_new w _
 have hz3:W3.heap.size=w.heap.size+1:=by rw [hW3];simp
 have r1:=H.row
 have r3:=Ybe r1 hB3 (fun g hg=>(r1.lt g hg).2)
 obtain ⟨g,cap,w4,k1,k2,k3,k4⟩:=Ykt W3 74 ty 0 120 i0 _ 1 8 underlying74 hi hz0 hz1 hz2 rfl (by omega) v hs.length _ r3 ⟨w.heap.size,0,none⟩ 1 [.pointer (some ⟨gb,0,none⟩)] rfl (fun j u hu=>by rw [Ydg];exact Yaa hN3 (by simpa using hu)) (fun u hu=>by simp at hu;subst hu;rfl) (by unfold maxLen;omega) (by omega) (by omega)
 have hkeep:∀ x,x<w.heap.size→v.ownBlock≠some x→w4.heap[x]? = w.heap[x]?:=fun x hx hn=>(k3.block x (by omega) (fun e=>hn e.symm)).trans (hB3.block x hx)
 have hvb:v.ownBlock≠some b:=Yc3 r1 H.blk (by decide)
 have hbw:b<w.heap.size:=Yaz H.blk
 have hcb:=(hkeep b hbw hvb).trans H.blk
 rw [hW3] at k1
 refine ⟨g,cap,w4,k1,hcb,?_⟩
 have hY:∀ x,x≠b→(w4.setCell ⟨b,0,none⟩ (.slice (some ⟨g,0,none⟩) (hs.length+1) cap)).heap[x]? = w4.heap[x]?:=fun x hx=>Below.heap_setCell _ _ _ _ hx
 have hYz:(w4.setCell ⟨b,0,none⟩ (.slice (some ⟨g,0,none⟩) (hs.length+1) cap)).heap.size=w4.heap.size:=by simp
 have hYc:=Yak w4 b 0 (.slice (some ⟨g,0,none⟩) (hs.length+1) cap) _ _ hcb
 have hYb:Below 0 w (w4.setCell ⟨b,0,none⟩ (.slice (some ⟨g,0,none⟩) (hs.length+1) cap)):=((hB3.mono (Nat.zero_le _)).trans ⟨k3.os,k3.tape,k3.output,k3.size,fun x hx=>by omega⟩).setCell (p:=⟨b,0,none⟩) (by simp) _
 generalize w4.setCell ⟨b,0,none⟩ (.slice (some ⟨g,0,none⟩) (hs.length+1) cap)=Y at hY hYz hYc hYb ⊢
 have hs4:=k3.size
 have hgb:g≠b:=fun e=>by
  have:=Yc3 k2 hcb (by decide);exact this (by rw [←e];rfl)
 have hoff:∀ x,x<w.heap.size→x≠b→v.ownBlock≠some x→Y.heap[x]? = w.heap[x]?:=fun x hx h1 h2=>(hY x h1).trans (hkeep x hx h2)
 have hnv:∀ x,(Ydl w x.1 x.2)→Ygi w x.2→∀ g,Ycf x g→g≠b∧v.ownBlock≠some g:=fun x h1 h2 g hp=>by
  refine ⟨fun e=>Yij h1 h2 (g:=g) (by rw [e];exact H.blk) (by decide) hp,fun e=>?_⟩;obtain ⟨c,hc⟩:=Ydf r1 e;exact Yij h1 h2 hc (by decide) hp
 have hpk:∀ x,(Ydl w x.1 x.2)→Ygi w x.2→∀ g,Ycf x g→Y.heap[g]? = w.heap[g]?:=fun x h1 h2 g hp=>hoff g (Yme h1 g hp) (hnv x h1 h2 g hp).1 (hnv x h1 h2 g hp).2
 have hmem:∀ x,x∈hs ++ [(gb,h)]→Ydl w x.1 x.2∧Ygi w x.2∧∀ g,Ycf x g→G g:=fun x hx=>by
  rw [List.mem_append,List.mem_singleton] at hx;rcases hx with hx | rfl
  ·exact ⟨H.each x hx,H.typ x hx,H.gx x hx⟩
  ·exact ⟨hh,ht,hG⟩
 refine ⟨⟨hYc,?_,fun x hx=>?_,fun x hx=>?_,.inl H.gb,fun x hx=>?_,fun x hx g hg=>.inl ((hmem x hx).2.2 g hg),fun x hx=>?_⟩,hYb,hoff⟩
 ·have k5:=Yas k2 (fun x hx=>hY x (fun e=>hgb (by
   have:g=x:=by simpa [Value.ownBlock] using hx
   rw [this,e])))
  rw [List.map_append,List.length_append];exact k5
 ·exact (hmem x hx).1.frame (hpk x (hmem x hx).1 (hmem x hx).2.1) (by omega)
 ·exact (hmem x hx).2.1.frame (fun g hg=>hpk x (hmem x hx).1 (hmem x hx).2.1 g (.inr hg))
 ·have hgx:g=x:=by simpa [Value.ownBlock] using hx
  rcases k4 with k4 | ⟨k4,_⟩
  ·exact .inl (H.gv x (by rw [←hgx];exact k4))
  ·exact .inr ⟨by omega,by rw [hYz];have:=(k2.lt g rfl).2;omega⟩
 ·rcases hx with hx | hx
  ·have:=H.lt x hx;omega
  ·exact hx.2
theorem Yc8.less {v':Value} {n' size:Nat} {item:List Value} (h:Yc8 w v n size item) (hv:v.ownBlock=some g) {w0:World} (h':Yc8 w0 v' n' size item) (hv':v'.ownBlock=some g) (hn:n'≤n):Yc8 w v' n' size item:=by
 rcases h' with ⟨h1,_⟩ | ⟨g1,cap1,h1,_⟩
 ·rw [h1] at hv';cases hv'
 ·rw [h1] at hv'
  have e1:g1=g:=by simpa [Value.ownBlock] using hv'
  subst e1;rcases h with ⟨h2,_⟩ | ⟨g2,cap2,h2,h3,h4⟩
  ·rw [h2] at hv;cases hv
  ·rw [h2] at hv
   have e2:g2=g1:=by simpa [Value.ownBlock] using hv
   subst e2;exact .inr ⟨g2,cap1,h1,h3,fun i hi j u hu=>h4 i (by omega) j u hu⟩
def Yjp (x h:Yav):Prop:=(∀ g,x.vp.ownBlock=some g→h.vp.ownBlock=some g→x.np≤h.np∧x.mark=h.mark)∧(∀ g,x.ve.ownBlock=some g→h.ve.ownBlock=some g→x.ne≤h.ne∧x.mark=h.mark)∧∀ g,x.vb.ownBlock=some g→h.vb.ownBlock=some g→x.nb≤h.nb∧x.mark=h.mark
structure Cur (w:World) (hs:List (Nat×Yav)) (gb:Nat) (h:Yav):Prop where
 mem:(gb,h)∈hs
 own:Ydv w gb h 0
 near:∀ x∈hs,Yjp x.2 h
theorem Yjp.rfl' (h:Yav):Yjp h h:=⟨fun _ _ _=>⟨Nat.le_refl _,rfl⟩,fun _ _ _=>⟨Nat.le_refl _,rfl⟩,fun _ _ _=>⟨Nat.le_refl _,rfl⟩⟩
theorem Yfx {c1 c2:Array Value} {e1 e2:TypeId} {z1 z2:Nat×Nat} (h1:w.heap[g]? = some (.cells c1 e1 z1)) (h2:w.heap[g]? = some (.cells c2 e2 z2)) (he:e1≠e2):False:=by
 rw [h1] at h2;simp only [Option.some.injEq,Obj.cells.injEq] at h2;exact he h2.2.1
theorem Y42 (H:Ycn w b v vps hs G) (C:Cur w hs gb h) (L:Yeg w W gb gb' 0 h vp ve vb 1 1 1) (hgb:w.heap.size≤gb') (hsm:h.np≤99989∧h.ne≤99989∧h.nb≤99989):
 Ycn W b v vps hs (Ycx G w W)∧Ydv W gb' ⟨vp,ve,vb,h.np+1,h.ne+1,h.nb+1,h.mark⟩ 0∧(∀ x∈hs,Yjp x.2 ⟨vp,ve,vb,h.np+1,h.ne+1,h.nb+1,h.mark⟩)∧(∀ g,Ycf (gb',⟨vp,ve,vb,h.np+1,h.ne+1,h.nb+1,h.mark⟩) g→Ycx G w W g)∧∀ x,x<w.heap.size→¬G x→W.heap[x]? = w.heap[x]?:=by
 have hs0:=L.below.size
 have O:=Y4x L hsm
 have T:=C.own.typ
 have hmem:=H.gx _ C.mem
 obtain ⟨t1,t2,t3⟩:=T
 have hsame:∀ (g:Nat) (cs:Array Value) (e:TypeId) (fz:Nat×Nat),w.heap[g]? = some (Obj.cells cs e fz)→e≠43→e≠152→e≠5→W.heap[g]? = w.heap[g]?:=fun g cs e fz hg h1 h2 h3=>
  L.off g (Yaz hg) (fun e'=>by obtain ⟨c,hc⟩:=t1 g e';exact Yfx hg hc h1) (fun e'=>by obtain ⟨c,hc⟩:=t2 g e';exact Yfx hg hc h2) (fun e'=>by obtain ⟨c,hc⟩:=t3 g e';exact Yfx hg hc h3)
 have hP:∀ x∈hs,∀ g,x.2.vp.ownBlock=some g→h.vp.ownBlock≠some g→W.heap[g]? = w.heap[g]?:=fun x hx g hg hn=>by
  obtain ⟨c,hc⟩:=(H.typ x hx).1 g hg;exact L.off g (Yaz hc) hn (fun e'=>by obtain ⟨c',hc'⟩:=t2 g e';exact Yfx hc hc' (by decide)) (fun e'=>by obtain ⟨c',hc'⟩:=t3 g e';exact Yfx hc hc' (by decide))
 have hE:∀ x∈hs,∀ g,x.2.ve.ownBlock=some g→h.ve.ownBlock≠some g→W.heap[g]? = w.heap[g]?:=fun x hx g hg hn=>by
  obtain ⟨c,hc⟩:=(H.typ x hx).2.1 g hg;exact L.off g (Yaz hc) (fun e'=>by obtain ⟨c',hc'⟩:=t1 g e';exact Yfx hc hc' (by decide)) hn (fun e'=>by obtain ⟨c',hc'⟩:=t3 g e';exact Yfx hc hc' (by decide))
 have hB:∀ x∈hs,∀ g,x.2.vb.ownBlock=some g→h.vb.ownBlock≠some g→W.heap[g]? = w.heap[g]?:=fun x hx g hg hn=>by
  obtain ⟨c,hc⟩:=(H.typ x hx).2.2 g hg;exact L.off g (Yaz hc) (fun e'=>by obtain ⟨c',hc'⟩:=t1 g e';exact Yfx hc hc' (by decide)) (fun e'=>by obtain ⟨c',hc'⟩:=t2 g e';exact Yfx hc hc' (by decide)) hn
 have frameR:∀ {va:Value} {na size:Nat} {item:List Value},Yc8 w va na size item→(∀ g,va.ownBlock=some g→W.heap[g]? = w.heap[g]?)→Yc8 W va na size item:=fun h1 h2=>h1.frame h2 hs0
 refine ⟨⟨(hsame b _ _ _ H.blk (by decide) (by decide) (by decide)).trans H.blk,Yas H.row (fun g hg=>?_),fun x hx=>?_,fun x hx=>?_,.inl H.gb,fun g hg=>.inl (H.gv g hg),fun x hx g hg=>.inl (H.gx x hx g hg),fun g hg=>?_⟩,O,fun x hx=>?_,fun g hg=>?_,fun x hx hn=>?_⟩
 ·obtain ⟨c,hc⟩:=Ydf H.row hg
  exact hsame g _ _ _ hc (by decide) (by decide) (by decide)
 ·have E:=H.each x hx
  obtain ⟨n1,n2,n3⟩:=C.near x hx;refine ⟨(hsame x.1 _ _ _ E.cell (by decide) (by decide) (by decide)).trans E.cell,?_,?_,?_,E.small⟩
  ·by_cases hsh:∃ g,x.2.vp.ownBlock=some g∧h.vp.ownBlock=some g
   ·obtain ⟨g,h1,h2⟩:=hsh
    have hm:=(n1 g h1 h2).2;have E1:=E.rp;rw [hm] at E1 ⊢;exact Yc8.less L.old.rp h2 E1 h1 (n1 g h1 h2).1
   ·exact frameR E.rp (fun g hg=>hP x hx g hg (fun e=>hsh ⟨g,hg,e⟩))
  ·by_cases hsh:∃ g,x.2.ve.ownBlock=some g∧h.ve.ownBlock=some g
   ·obtain ⟨g,h1,h2⟩:=hsh
    have hm:=(n2 g h1 h2).2;have E1:=E.re;rw [hm] at E1 ⊢;exact Yc8.less L.old.re h2 E1 h1 (n2 g h1 h2).1
   ·exact frameR E.re (fun g hg=>hE x hx g hg (fun e=>hsh ⟨g,hg,e⟩))
  ·by_cases hsh:∃ g,x.2.vb.ownBlock=some g∧h.vb.ownBlock=some g
   ·obtain ⟨g,h1,h2⟩:=hsh
    have hm:=(n3 g h1 h2).2;have E1:=E.rb;rw [hm] at E1 ⊢;exact Yc8.less L.old.rb h2 E1 h1 (n3 g h1 h2).1
   ·exact frameR E.rb (fun g hg=>hB x hx g hg (fun e=>hsh ⟨g,hg,e⟩))
 ·refine ⟨fun g hg=>?_,fun g hg=>?_,fun g hg=>?_⟩
  ·by_cases e:h.vp.ownBlock=some g
   ·exact L.typ.1 g e
   ·rw [hP x hx g hg e];exact (H.typ x hx).1 g hg
  ·by_cases e:h.ve.ownBlock=some g
   ·exact L.typ.2.1 g e
   ·rw [hE x hx g hg e];exact (H.typ x hx).2.1 g hg
  ·by_cases e:h.vb.ownBlock=some g
   ·exact L.typ.2.2 g e
   ·rw [hB x hx g hg e];exact (H.typ x hx).2.2 g hg
 ·rcases hg with hg | hg
  ·have:=H.lt g hg;omega
  ·exact hg.2
 ·obtain ⟨n1,n2,n3⟩:=C.near x hx
  have E:=H.each x hx;refine ⟨fun g h1 h2=>?_,fun g h1 h2=>?_,fun g h1 h2=>?_⟩
  ·rcases L.at'.1 g h2 with h3 | h3
   ·have:=n1 g h1 h3;exact ⟨Nat.le_succ_of_le this.1,this.2⟩
   ·have:=E.rp.lt g h1;omega
  ·rcases L.at'.2.1 g h2 with h3 | h3
   ·have:=n2 g h1 h3;exact ⟨Nat.le_succ_of_le this.1,this.2⟩
   ·have:=E.re.lt g h1;omega
  ·rcases L.at'.2.2 g h2 with h3 | h3
   ·have:=n3 g h1 h3;exact ⟨Nat.le_succ_of_le this.1,this.2⟩
   ·have:=E.rb.lt g h1;omega
 ·have hl:=Yme O.hold g hg
  rcases hg with hg | hg | hg | hg
  ·have hg':g=gb':=hg
   exact .inr ⟨by omega,hl⟩
  ·rcases L.at'.1 g hg with h3 | h3
   ·exact .inl (hmem g (.inr (.inl h3)))
   ·exact .inr ⟨h3,hl⟩
  ·rcases L.at'.2.1 g hg with h3 | h3
   ·exact .inl (hmem g (.inr (.inr (.inl h3))))
   ·exact .inr ⟨h3,hl⟩
  ·rcases L.at'.2.2 g hg with h3 | h3
   ·exact .inl (hmem g (.inr (.inr (.inr h3))))
   ·exact .inr ⟨h3,hl⟩
 ·exact L.off x hx (fun e=>hn (hmem x (.inr (.inl e)))) (fun e=>hn (hmem x (.inr (.inr (.inl e))))) (fun e=>hn (hmem x (.inr (.inr (.inr e)))))
theorem Ydv.frame {base:Nat} (H:Ydv w hb h base) (hk:∀ g,Ycf (hb,h) g→w'.heap[g]? = w.heap[g]?):Ydv w' hb h base:=by
 obtain ⟨y1,a1,a2⟩:=H.rp;obtain ⟨y2,b1,b2⟩:=H.re;obtain ⟨y3,c1,c2⟩:=H.rb;exact ⟨(hk hb (.inl rfl)).trans H.cell,⟨y1,Yas a1 (fun g hg=>hk g (.inr (.inl hg))),a2⟩,⟨y2,Yas b1 (fun g hg=>hk g (.inr (.inr (.inl hg)))),b2⟩,⟨y3,Yas c1 (fun g hg=>hk g (.inr (.inr (.inr hg)))),c2⟩,H.small⟩
structure Yku (w W:World) (b:Nat) (vps:Value) (hs:List (Nat×Yav)) (G:Nat→Prop) (gb np ne nb n:Nat):Prop where
 inn:∃ v hs' h,Ycn W b v vps hs' (Ycx G w W)∧hs'.length=hs.length+1+n∧Cur W hs' gb h∧h.np=np+n∧h.ne=ne+n∧h.nb=nb+n
 off:∀ x,x<w.heap.size→¬G x→W.heap[x]? = w.heap[x]?
 below:Below 0 w W
theorem Ymf (h1:w.heap.size≤w1.heap.size) (h2:w1.heap.size≤w2.heap.size) (x:Nat) (hx:Ycx (Ycx G w w1) w1 w2 x):Ycx G w w2 x:=by
 rcases hx with (hx | hx) | hx
 ·exact .inl hx
 ·exact .inr ⟨hx.1,by omega⟩
 ·exact .inr ⟨by omega,hx.2⟩
theorem Y43 (H:Ycn W b v vps hs (Ycx G w W)) (hG:∀ x∈hs,∀ g,Ycf x g→Ycf (hb,h) g→False) (O:Ydv W hb h 0) (hGp:∀ g,Ycf (hb,h) g→Ycx G w W g) (hoff:∀ x,x<w.heap.size→¬G x→W.heap[x]? = w.heap[x]?) (hbl:Below 0 w W) (hl:hs.length≤10000000000000) (ty:TypeId):
 ∃ g cap w4,(Builtin.append_ #[74,74] ty #[v,.slice (some ⟨W.heap.size,0,none⟩) 1 1]).run prog (W.alloc (.cells #[.pointer (some ⟨hb,0,none⟩)] 120))=.ok (.slice (some ⟨g,0,none⟩) (hs.length+1) cap) w4 ∧
  w4.heap[b]? = some (.cells #[v,vps] 77 (0,0)) ∧
  Yku w (w4.setCell ⟨b,0,none⟩ (.slice (some ⟨g,0,none⟩) (hs.length+1) cap)) b vps hs G hb h.np h.ne h.nb 0:=by
 obtain ⟨g,cap,w4,k1,k2,k3,k4,k5⟩:=Yuk H O.hold O.typ hGp hl ty
 refine ⟨g,cap,w4,k1,k2,?_⟩
 generalize w4.setCell ⟨b,0,none⟩ (.slice (some ⟨g,0,none⟩) (hs.length+1) cap)=Y at k3 k4 k5 ⊢
 have z1:=hbl.size
 have z2:=k4.size
 have hpk:∀ g,Ycf (hb,h) g→Y.heap[g]? = W.heap[g]?:=fun g hp=>k5 g (Yme (x:=(hb,h)) O.hold g hp) (fun e=>Yij (x:=(hb,h)) O.hold O.typ H.blk (by decide) (e▸hp)) (fun e=>by
  obtain ⟨c,hc⟩:=Ydf H.row e;exact Yij (x:=(hb,h)) O.hold O.typ hc (by decide) hp)
 refine ⟨⟨_,hs ++ [(hb,h)],h,k3.grow (Ymf z1 z2) (fun x hx=>?_),by simp,⟨by simp,O.frame hpk,fun x hx=>?_⟩,rfl,rfl,rfl⟩,fun x hx hn=>?_,hbl.trans k4⟩
 ·rcases hx with hx | hx
  ·have:=H.lt x (.inl hx);omega
  ·exact hx.2
 ·rw [List.mem_append,List.mem_singleton] at hx
  rcases hx with hx | rfl
  ·exact ⟨fun g h1 h2=>(hG x hx g (.inr (.inl h1)) (.inr (.inl h2))).elim,fun g h1 h2=>(hG x hx g (.inr (.inr (.inl h1))) (.inr (.inr (.inl h2)))).elim,fun g h1 h2=>(hG x hx g (.inr (.inr (.inr h1))) (.inr (.inr (.inr h2)))).elim⟩
  ·exact Yjp.rfl' h
 ·have hnp:¬Ycx G w W x:=fun hp=>hp.elim hn (fun h1=>by omega)
  exact (k5 x (by omega) (fun e=>hnp (by rw [e];exact H.gb)) (fun e=>hnp (H.gv x e))).trans (hoff x hx hn)
theorem Y44 {W1:World} {hs':List (Nat×Yav)} {np ne nb:Nat} (H:Ycn W b v vps hs' (Ycx G w W)) (hlen:hs'.length=hs.length+1+n) (C:Cur W hs' gb h) (e1:h.np=np+n) (e2:h.ne=ne+n) (e3:h.nb=nb+n) (hoff:∀ x,x<w.heap.size→¬G x→W.heap[x]? = w.heap[x]?) (hbl:Below 0 w W) (hsm:np+n≤99989∧ne+n≤99989∧nb+n≤99989) (hl:hs.length+1+n≤10000000000000) (hgb:W.heap.size≤gb') (L:Yeg W W1 gb gb' 0 h vp ve vb 1 1 1) (ty:TypeId):
 W1.heap[b]? = some (.cells #[v,vps] 77 (0,0))∧∃ g cap w4,(Builtin.append_ #[74,74] ty #[v,.slice (some ⟨W1.heap.size,0,none⟩) 1 1]).run prog (W1.alloc (.cells #[.pointer (some ⟨gb',0,none⟩)] 120))=.ok (.slice (some ⟨g,0,none⟩) (hs.length+1+n+1) cap) w4 ∧
  w4.heap[b]? = some (.cells #[v,vps] 77 (0,0)) ∧
  Yku w (w4.setCell ⟨b,0,none⟩ (.slice (some ⟨g,0,none⟩) (hs.length+1+n+1) cap)) b vps hs G gb' np ne nb (n+1):=by
 obtain ⟨H1,O,hnear,hpart,hoff1⟩:=Y42 H C L hgb (by omega)
 have hb1:=L.below
 have z0:=hbl.size
 have z1:=hb1.size
 have hlt:∀ x,Ycx G w W1 x→x<W1.heap.size:=fun x hx=>by
  rcases hx with hx | hx
  ·have:=H.lt x (.inl hx);omega
  ·exact hx.2
 have H1':=H1.grow (Ymf z0 z1) hlt
 obtain ⟨g,cap,w4,k1,k2,k3,k4,k5⟩:=Yuk H1' O.hold O.typ (fun g hg=>Ymf z0 z1 g (hpart g hg)) (by omega) ty
 rw [hlen] at k1 k3 k4 k5
 refine ⟨H1.blk,g,cap,w4,k1,k2,?_⟩
 generalize w4.setCell ⟨b,0,none⟩ (.slice (some ⟨g,0,none⟩) (hs.length+1+n+1) cap)=Y at k3 k4 k5 ⊢
 have z2:=k4.size
 have hpk:∀ g,Ycf (gb',⟨vp,ve,vb,h.np+1,h.ne+1,h.nb+1,h.mark⟩) g→Y.heap[g]? = W1.heap[g]?:=fun g hp=>k5 g (Yme (x:=(gb',⟨vp,ve,vb,h.np+1,h.ne+1,h.nb+1,h.mark⟩)) O.hold g hp) (fun e=>Yij (x:=(gb',⟨vp,ve,vb,h.np+1,h.ne+1,h.nb+1,h.mark⟩)) O.hold O.typ H1.blk (by decide) (e▸hp)) (fun e=>by
  obtain ⟨c,hc⟩:=Ydf H1.row e;exact Yij (x:=(gb',⟨vp,ve,vb,h.np+1,h.ne+1,h.nb+1,h.mark⟩)) O.hold O.typ hc (by decide) hp)
 refine ⟨⟨_,_,_,k3.grow (Ymf (by omega) z2) (fun x hx=>?_),by simp;omega,⟨List.mem_append_right _ (List.mem_singleton_self _),O.frame hpk,fun x hx=>?_⟩,by show h.np+1=_;omega,by show h.ne+1=_;omega,by show h.nb+1=_;omega⟩,fun x hx hn=>?_,(hbl.trans hb1).trans k4⟩
 ·rcases hx with hx | hx
  ·have:=hlt x (.inl hx);omega
  ·exact hx.2
 ·rw [List.mem_append,List.mem_singleton] at hx
  rcases hx with hx | rfl
  ·exact hnear x hx
  ·exact Yjp.rfl' _
 ·have hnp:¬Ycx G w W1 x:=fun hp=>hp.elim hn (fun h1=>by omega)
  have hnp0:¬Ycx G w W x:=fun hp=>hp.elim hn (fun h1=>by omega)
  exact ((k5 x (by omega) (fun e=>hnp (by rw [e];exact H1'.gb)) (fun e=>hnp (H1'.gv x e))).trans (hoff1 x (by omega) hnp0)).trans (hoff x hx hn)
def Yul (w w':World) (b:Nat) (vps:Value) (hs:List (Nat×Yav)) (G:Nat→Prop):Prop:=(∃ v' hs',Ycn w' b v' vps hs' (Ycx G w w')∧hs'.length=hs.length+4)∧(∀ x,x<w.heap.size→¬G x→w'.heap[x]? = w.heap[x]?)∧Below 0 w w'
theorem Yum (w:World) (b hb:Nat) (v vps:Value) (hs:List (Nat×Yav)) (G:Nat→Prop) (h:Yav) (H:Ycn w b v vps hs G) (hc:w.heap[hb]? = some (.cells #[h.vp,h.ve,h.vb,.int .i64 0] 150 (0,0))) (hout:∀ g,Ycf (hb,h) g→¬G g) (hplt:∀ g,Ycf (hb,h) g→g<w.heap.size) (hm:h.mark=hs.length+1) (hsm:h.np≤99980∧h.ne≤99980∧h.nb≤99980) (hl:hs.length+4≤10000000000000)
 (KM:∀ W,W.heap[hb]? = some (.cells #[h.vp,h.ve,h.vb,.int .i64 (h.mark:Int)] 150 (0,0))→(∀ x:Nat,x≠hb→W.heap[x]? = w.heap[x]?)→Calls prog 126 #[.pointer (some ⟨hb,0,none⟩)] W fun e w'=>e=.returned (.tuple #[])∧Ydv w' hb h 0∧Below 0 W w'∧∀ x,x<W.heap.size→¬Ycf (hb,h) x→w'.heap[x]? = W.heap[x]?):
 Calls prog 88 #[.pointer (some ⟨b,0,none⟩),.pointer (some ⟨hb,0,none⟩)] w fun e w'=>e=.returned (.tuple #[])∧Yul w w' b vps hs (fun x=>G x∨Ycf (hb,h) x):=by
 obtain ⟨N,hN⟩:∃ N,N=hs.length:=⟨_,rfl⟩
 obtain ⟨p,cap,rfl,_⟩:=Ya6 H.row
 have c0:w.cell? ⟨b,0,none⟩=some (.slice p N cap):=by rw [hN];exact Yaa (j:=0) H.blk rfl
 have d3:w.cell? ⟨hb,3,none⟩=some (.int .i64 0):=Yaa (j:=3) hc rfl
 have y3:=Yah 3 hc
 have hwN:IntKind.i64.wrap ((N:Int)+1)=(N:Int)+1:=by rw [IntKind.wrap_i64];omega
 have hne:b≠hb:=fun e=>Yfx H.blk (by rw [e];exact hc) (by decide)
 obtain ⟨W0,hW0⟩:∃ W0,W0=w.setCell ⟨hb,3,none⟩ (.int .i64 ((N:Int)+1)):=⟨_,rfl⟩
 have x0:∀ x:Nat,x≠hb→W0.heap[x]? = w.heap[x]?:=fun x hx=>by rw [hW0];exact Below.heap_setCell _ _ _ _ hx
 have x1:W0.heap[hb]? = some (.cells #[h.vp,h.ve,h.vb,.int .i64 (h.mark:Int)] 150 (0,0)):=by
  rw [hW0,Yak _ _ _ _ _ _ hc,hm,←hN];simp
 have x2:Below 0 w W0:=by rw [hW0];exact (Below.refl _ _).setCell (p:=⟨hb,3,none⟩) (by simp) _
 have x3:W0.heap.size=w.heap.size:=by rw [hW0];simp
 have KM0:=Yh (KM W0 x1 x0)
 have HM:Hid (∀ W1,Ydv W1 hb h 0→Below 0 W0 W1→(∀ x,x<W0.heap.size→¬Ycf (hb,h) x→W1.heap[x]? = W0.heap[x]?)→W1.cell? ⟨b,0,none⟩=some (.slice p N cap)∧∃ g cap' w4,(Builtin.append_ #[74,74] 74 #[.slice p N cap,.slice (some ⟨W1.heap.size,0,none⟩) 1 1]).run prog (W1.alloc (.cells #[.pointer (some ⟨hb,0,none⟩)] 120))=.ok (.slice (some ⟨g,0,none⟩) (N+1) cap') w4 ∧
  w4.heap[b]? = some (.cells #[.slice p N cap,vps] 77 (0,0)) ∧
  Yku w (w4.setCell ⟨b,0,none⟩ (.slice (some ⟨g,0,none⟩) (N+1) cap')) b vps hs (fun x=>G x∨Ycf (hb,h) x) hb h.np h.ne h.nb 0):=fun W1 O hb1 hk1=>by
  have z1:=hb1.size
  have hGk:∀ x,G x→W1.heap[x]? = w.heap[x]?:=fun x hx=>(hk1 x (by have:=H.lt x hx;omega) (fun hp=>hout x hp hx)).trans (x0 x (fun e=>hout x (.inl e) hx))
  have H1:=H.frame hGk (by omega)
  have H2:Ycn W1 b (.slice p hs.length cap) vps hs (Ycx (fun x=>G x∨Ycf (hb,h) x) w W1):=H1.grow (fun x hx=>.inl (.inl hx)) (fun x hx=>by
   rcases hx with (hx | hx) | hx
   ·exact H1.lt x hx
   ·have:=hplt x hx;omega
   ·exact hx.2)
  refine ⟨by rw [hN];exact Yaa (j:=0) H1.blk rfl,?_⟩
  rw [hN]
  exact Y43 H2 (fun x hx g h1 h2=>hout g h2 (H.gx x hx g h1)) O (fun g hg=>.inl (.inr hg)) (fun x hx hn=>(hk1 x (by omega) (fun hp=>hn (.inr hp))).trans (x0 x (fun e=>hn (.inr (.inl e))))) (x2.trans hb1) (by omega) _
 clear KM H hc x0 x1 x2 hout hplt x3 hN hm
 go_enter func88,ntmps88
 go_upto_region 1 with fail
 rw [←hW0]
 clear hW0 c0 d3 y3
 go_upto_region 2 with (first
  | (go_at_call 126;go_must (
   refine KM0.out.mono ?_;rintro e W1 ⟨rfl,h1,h2,h3⟩;obtain ⟨c0,g,cap',w4,hr,hb4,hK⟩:=HM.out W1 h1 h2 h3;have HK:=Yh hK;have f0:w4.cell? ⟨b,0,none⟩=some (.slice p N cap):=Yaa (j:=0) hb4 rfl;have z0:=Yah 0 hb4;clear h1 h2 h3 hK hb4)))
 go_upto_region 3 with (first
  | (at_builtin;go_must (refine Ymb rfl _ _ 74 rfl (.slice p N cap) _ _ rfl rfl hr ?_)))
 revert HK
 generalize w4.setCell ⟨b,0,none⟩ (.slice (some ⟨g,0,none⟩) (N+1) cap')=W5
 intro HK
 clear hr f0 z0 c0 HM KM0 hwN
 go_wp2
 go_loopw [4,5] (fun gv iv wr=>∃ n gb,n≤3∧iv=.int .i64 (n:Nat)∧gv=.pointer (some ⟨gb,0,none⟩)∧Yku w wr b vps hs (fun x=>G x∨Ycf (hb,h) x) gb h.np h.ne h.nb n) (fun _ iv _=>3 - (intOf iv).toNat)
 case atStart=>exact ⟨0,hb,by omega,rfl,rfl,HK.out⟩
 case round=>
  obtain ⟨n,gb,hn,rfl,rfl,K⟩:=hrel;clear HK;by_cases hlt:n<3
  ·have hlt':(n:Int)<3:=by omega
   obtain ⟨v1,hs1,h1,H1,hl1,C1,e1,e2,e3⟩:=K.inn;obtain ⟨p1,cap1,rfl,_⟩:=Ya6 H1.row;obtain ⟨N1,hN1⟩:∃ N1,N1=hs1.length:=⟨_,rfl⟩;have KL:=Yh (Y4w wr gb 0 h1 C1.own (Nat.zero_le _));have HM:Hid (∀ W1 gb' vp ve vb,wr.heap.size≤gb'→Yeg wr W1 gb gb' 0 h1 vp ve vb 1 1 1→W1.cell? ⟨b,0,none⟩=some (.slice p1 N1 cap1)∧∃ g cap w4,(Builtin.append_ #[74,74] 74 #[.slice p1 N1 cap1,.slice (some ⟨W1.heap.size,0,none⟩) 1 1]).run prog (W1.alloc (.cells #[.pointer (some ⟨gb',0,none⟩)] 120))=.ok (.slice (some ⟨g,0,none⟩) (N1+1) cap) w4 ∧
    w4.heap[b]? = some (.cells #[.slice p1 N1 cap1,vps] 77 (0,0)) ∧
    Yku w (w4.setCell ⟨b,0,none⟩ (.slice (some ⟨g,0,none⟩) (N1+1) cap)) b vps hs (fun x=>G x∨Ycf (hb,h) x) gb' h.np h.ne h.nb (n+1)):=fun W1 gb' vp ve vb hg L=>by
    have:=Y44 H1 hl1 C1 e1 e2 e3 K.off K.below (by omega) (by omega) hg L 74
    rw [←hl1] at this
    rw [hN1]
    exact ⟨Yaa (j:=0) this.1 rfl,this.2⟩
   clear K H1 C1 hl1 e1 e2 e3 hN1;go_upto_region 8 with (first
    | (go_at_call 127;go_must (
     refine KL.out.mono ?_;rintro e W1 ⟨gb',rfl,h2,vp,ve,vb,h3⟩;obtain ⟨c0,g,cap',w4,hr,hb4,hK⟩:=HM.out W1 gb' vp ve vb h2 h3;have HK:=Yh hK;have f0:w4.cell? ⟨b,0,none⟩=some (.slice p1 N1 cap1):=Yaa (j:=0) hb4 rfl;have z0:=Yah 0 hb4;clear h2 h3 hK hb4)))
   go_wp2_with (first
    | (at_builtin;go_must (refine Ymb rfl _ _ 74 rfl (.slice p1 N1 cap1) _ _ rfl rfl hr ?_)))
   exact ⟨⟨n+1,gb',by omega,by simp,rfl,HK.out⟩,by simp [intOf];omega⟩
  ·have hlt':¬(n:Int)<3:=by omega
   have hn3:n=3:=by omega
   subst hn3;have HK:=Yh K;clear K;go_wp2;go_end0;obtain ⟨⟨v1,hs1,h1,H1,hl1,_⟩,hoff,hbl⟩:=HK.out;exact ⟨rfl,⟨v1,hs1,H1,by omega⟩,hoff,hbl⟩
def Yht (w w':World) (b:Nat) (vps:Value) (hs:List (Nat×Yav)) (G:Nat→Prop) (a mb:Nat) (k:Bool) (F:Nat→Prop) (q:Nat):Prop:=∃ P' F' v' hs' G',Ydr w' a mb k P' F' (q+1) (q+1)∧(∀ x,F' x→F x∨w.heap.size≤x)∧Ycn w' b v' vps hs' G'∧hs'.length≤hs.length+4∧(∀ x,G' x→G x∨w.heap.size≤x)∧(∀ x,F' x→¬G' x)∧Below 0 w w'∧∀ x,x<w.heap.size→¬F x→¬G x→w'.heap[x]? = w.heap[x]?
theorem Y45 (H:Ycn w b v vps hs G) (hFG:∀ x,F x→¬G x) (A:Yce w w' a mb k F q):Yht w w' b vps hs G a mb k F q:=by
 obtain ⟨P',h1,h2,h3⟩:=A;refine ⟨P',_,v,hs,G,h1,fun x hx=>hx.imp id (·.1),H.frame (fun x hx=>h3 x (H.lt x hx) (fun hf=>hFG x hf hx)) h2.size,by omega,fun x hx=>.inl hx,fun x hx hg=>?_,h2,fun x hx hn _=>h3 x hx hn⟩;rcases hx with hx | hx
 ·exact hFG x hx hg
 ·have:=H.lt x hg;omega
theorem Yun {o:Obj} (hF1:Yc2 w1 a mb k P P F1 q q) (hFs:∀ x,F1 x→F x∨w.heap.size≤x) (hb1:Below 0 w w1) (hoff1:∀ x,x<w.heap.size→¬F x→w1.heap[x]? = w.heap[x]?) (hG:∀ x,G x→x<w.heap.size) (hFG:∀ x,F x→¬G x) (hrow:∀ g,Ycf (w2.heap.size,h) g→w.heap.size≤g∧¬F1 g) (hb2:Below w1.heap.size w1 w2) (K:Yul (w2.alloc o) w' b vps hs (fun x=>G x∨Ycf (w2.heap.size,h) x)):Yht w w' b vps hs G a mb k F q:=by
 obtain ⟨⟨v',hs',K1,K2⟩,K3,K4⟩:=K;have hb3:Below w1.heap.size w1 (w2.alloc o):=hb2.alloc hb2.size _;have z1:=hb1.size;have z2:=hb3.size;have z3:=K4.size;have hlt:=hF1.lt;have hnG:∀ x,F1 x→¬G x:=fun x hx hg=>(hFs x hx).elim (fun h1=>hFG x h1 hg) (fun h1=>by have:=hG x hg;omega)
 have hnP:∀ x,F1 x→¬Ycf (w2.heap.size,h) x:=fun x hx hp=>(hrow x hp).2 hx
 refine ⟨P,F1,v',hs',_,(hF1.frame (fun x hx=>(K3 x (by have:=hlt x hx;omega) (fun hc=>hc.elim (hnG x hx) (hnP x hx))).trans (hb3.block x (hlt x hx))) (by omega)).upq (by omega) (by omega),hFs,K1,by omega,fun x hx=>?_,fun x hx hg=>?_,(hb1.trans (hb3.mono (Nat.zero_le _))).trans K4,fun x hx hn hg=>?_⟩
 ·rcases hx with (hx | hx) | hx
  ·exact .inl hx
  ·exact .inr (hrow x hx).1
  ·exact .inr (by omega)
 ·rcases hg with (hg | hg) | hg
  ·exact hnG x hx hg
  ·exact hnP x hx hg
  ·have:=hlt x hx;omega
 ·refine ((K3 x (by omega) (fun hc=>hc.elim hg (fun hp=>?_))).trans (hb3.block x (by omega))).trans (hoff1 x hx hn)
  have:=(hrow x hp).1;omega
theorem Yuo (h:Yc2 w a mb k PS PM F q b):∃ XS,Yb6 w a k PS XS q∧∀ w' B,w.heap.size≤B→Ycv w w' a k PS XS q→Yb6 w' a k PS (fun x=>XS x∨(B≤x∧x<w'.heap.size)) q→Yc2 w' a mb k PS PM (fun x=>F x∨(w.heap.size≤x∧x<B∧x<w'.heap.size)) q b∧Below 0 w w'∧∀ x,x<w.heap.size→¬F x→w'.heap[x]? = w.heap[x]?:=by
 obtain ⟨FS,FM,h1,h2,h3,h4⟩:=h;refine ⟨_,h1.1,fun w' B hB ht hs=>?_⟩;obtain ⟨_,k2,k3⟩:=ht;have z:=k2.size;have hlt:∀ x,FM x→x<w.heap.size:=by obtain ⟨n,s,l,pairs,other,log,_,_,_,h6⟩:=h2;exact h6
 have hSF:Yhr w' a k PS (fun x=>FS x∨(w.heap.size≤x∧x<B∧x<w'.heap.size)) q:=by
  refine ⟨hs.less (fun x hx=>?_),.inl h1.2.1,fun x hx=>?_⟩
  ·obtain ⟨h5,h6⟩:=hx
   by_cases h7:x<w.heap.size
   ·exact .inl ⟨h7,fun h8=>h6 (.inl h8)⟩
   ·refine .inr ⟨?_,h5⟩
    by_cases h8:x<B
    ·exact absurd (.inr ⟨by omega,h8,h5⟩) h6
    ·omega
  ·rcases hx with hx | hx
   ·have:=h1.2.2 x hx;omega
   ·exact hx.2.2
 refine ⟨⟨_,FM,hSF,h2.frame (fun x hx=>k3 x ⟨hlt x hx,fun hf=>h3 x hf hx⟩) z,fun x hx hm=>?_,fun x=>?_⟩,k2,fun x hx hn=>k3 x ⟨hx,fun hf=>hn ((h4 x).2 (.inl hf))⟩⟩
 ·rcases hx with hx | hx
  ·exact h3 x hx hm
  ·have:=hlt x hm;omega
 ·show F x∨_↔_
  rw [h4];constructor
  ·rintro ((h5 | h5) | h5)
   ·exact .inl (.inl h5)
   ·exact .inr h5
   ·exact .inl (.inr h5)
  ·rintro ((h5 | h5) | h5)
   ·exact .inl (.inl h5)
   ·exact .inr h5
   ·exact .inl (.inr h5)
theorem Yup (h:Yc2 w a mb k PS PM F q b):∃ n s l pairs other log,Yaq w mb n s l pairs other log∧Ybw k PM n l pairs log b∧∀ x,Yl8 mb s l x→F x:=by
 obtain ⟨FS,FM,_,⟨n,s,l,pairs,other,log,m1,m2,m3,_⟩,_,h4⟩:=h;exact ⟨n,s,l,pairs,other,log,m1,m2,fun x hx=>(h4 x).2 (.inr (m3 x hx))⟩
structure Yuq (w w1:World) (b pb a mb:Nat) (vps:Value) (hs:List (Nat×Yav)) (G:Nat→Prop) (k:Bool) (F:Nat→Prop) (q:Nat) (v:Value):Prop where
 plr:w1.cell? ⟨pb,1,none⟩=some (.pointer (some ⟨mb,0,none⟩))
 dead:w1.cell? ⟨mb,1,none⟩=some (.bool false)
 same:∃ vp,w1.cell? ⟨mb,3,none⟩=some vp∧Calls prog 87 #[v,vp] w1 fun e w'=>e=.returned (.bool true)∧Below w1.heap.size w1 w'
 keep:∀ w2,Below w1.heap.size w1 w2→Calls prog 88 #[.pointer (some ⟨b,0,none⟩),.pointer (some ⟨w2.heap.size,0,none⟩)] (w2.alloc (.cells #[v,.slice none 0 0,.slice none 0 0,.int .i64 0] 150)) fun e w'=>e=.returned (.tuple #[])∧Yht w w' b vps hs G a mb k F q
theorem Y46 {ps:Yaf} (H:Ycn w b v0 vps hs G) (hFG:∀ x,F x→¬G x) (hp:Yee w pb a mb F) (hl:hs.length+4≤10000000000000)
 (hrow:w1.ownsRow B 43 2 v ps.length (Yad ps)) (hB:w.heap.size≤B) (hr:Ybi ps) (hu:∀ key,Yag ps key=P.comm key) (hF1:Yc2 w1 a mb k P P F1 q q) (hFs:∀ x,F1 x→F x∨(w.heap.size≤x∧x<B∧x<w1.heap.size)) (hFlt:∀ x,F x→x<w.heap.size) (hb1:Below 0 w w1) (hoff1:∀ x,x<w.heap.size→¬F x→w1.heap[x]? = w.heap[x]?):Yuq w w1 b pb a mb vps hs G k F q v:=by
 obtain ⟨n,s,l,pairs,other,log,m1,A,_⟩:=Yup hF1
 have hps:ps=pairs:=Y3e hr A.rise (fun key=>by rw [hu,A.comm])
 have hfit:=Yub hF1.fit.1 A.rise A.comm
 rw [←hps] at hfit
 have z1:=hb1.size
 refine ⟨?_,?_,⟨s.vp,Yaa (j:=3) m1.cell rfl,?_⟩,fun w2 hb2=>?_⟩
 ·exact (World.cell?_of_block (a:=⟨pb,1,none⟩) (hoff1 pb (Yaz hp.cell) hp.out)).trans (Yaa (j:=1) hp.cell rfl)
 ·have:w1.cell? ⟨mb,1,none⟩=some (.bool n.dead):=Yaa (j:=1) m1.cell rfl
  rw [A.dead] at this;exact this
 ·exact Y4o w1 v s.vp ps B 0 hrow (by rw [hps];exact m1.prs) (by omega)
 ·have z2:=hb2.size
  have hb3:Below w1.heap.size w1 (w2.alloc (.cells #[v,.slice none 0 0,.slice none 0 0,.int .i64 0] 150)):=hb2.alloc z2 _;have hhb:(w2.alloc (.cells #[v,.slice none 0 0,.slice none 0 0,.int .i64 0] 150)).heap[w2.heap.size]? = some (.cells #[v,.slice none 0 0,.slice none 0 0,.int .i64 0] 150 (0,0)):=heap_alloc_new _ _;have hz3:(w2.alloc (.cells #[v,.slice none 0 0,.slice none 0 0,.int .i64 0] 150)).heap.size=w2.heap.size+1:=by simp
  have H3:Ycn (w2.alloc (.cells #[v,.slice none 0 0,.slice none 0 0,.int .i64 0] 150)) b v0 vps hs G:=H.frame (fun x hx=>(hb3.block x (by have:=H.lt x hx;omega)).trans (hoff1 x (H.lt x hx) (fun hf=>hFG x hf hx))) (by omega);have r3:=Ybe hrow hb3 (fun g hg=>(hrow.lt g hg).2);have hrw:∀ g,Ycf (w2.heap.size,⟨v,.slice none 0 0,.slice none 0 0,ps.length,0,0,hs.length+1⟩) g→g=w2.heap.size∨v.ownBlock=some g:=fun g hg=>by
   rcases hg with hg | hg | hg | hg
   ·exact .inl hg
   ·exact .inr hg
   ·cases hg
   ·cases hg
  have hrow':∀ g,Ycf (w2.heap.size,⟨v,.slice none 0 0,.slice none 0 0,ps.length,0,0,hs.length+1⟩) g→w.heap.size≤g∧¬F1 g∧g<w2.heap.size+1:=fun g hg=>by
   rcases hrw g hg with hg | hg
   ·exact ⟨by omega,fun hf=>by have:=hF1.lt g hf;omega,by omega⟩
   ·have:=hrow.lt g hg
    refine ⟨by omega,fun hf=>?_,by omega⟩;rcases hFs g hf with h1 | h1
    ·have:=hFlt g h1;omega
    ·omega
  refine (Yum _ b w2.heap.size v0 vps hs G ⟨v,.slice none 0 0,.slice none 0 0,ps.length,0,0,hs.length+1⟩ H3 hhb (fun g hg hG=>?_) (fun g hg=>by have:=(hrow' g hg).2.2;omega) rfl ⟨by show ps.length≤99980;omega,Nat.zero_le _,Nat.zero_le _⟩ hl (fun W hW hWk=>?_)).mono ?_
  ·have h1:=(hrow' g hg).1
   have h2:=H.lt g hG;omega
  ·have hvb:v.ownBlock≠some w2.heap.size:=fun e=>by have:=(hrow.lt _ e).2;omega
   have r4:=Yeu (Yas r3 (fun g hg=>hWk g (fun e=>hvb (by rw [←e];exact hg)))) (Nat.zero_le B);refine (Y4j W w2.heap.size (hs.length+1) ps.length 0 v _ (by omega) hW r4 (by omega) hvb).mono ?_;rintro e w' ⟨h1,M⟩;exact ⟨h1,Y4y M hW hvb (by omega) (by omega),M.below,fun x hx hn=>M.off x hx (fun e=>hn (.inr (.inl e)))⟩
  ·rintro e w' ⟨h1,K⟩
   exact ⟨h1,Yun hF1 (fun x hx=>(hFs x hx).imp id (·.1)) hb1 hoff1 H.lt hFG (fun g hg=>⟨(hrow' g hg).1,(hrow' g hg).2.1⟩) hb2 K⟩
theorem Y47 (h:Ydr w a mb k P F q q) (hp:Yee w pb a mb F) (H:Ycn w b v0 vps hs G) (hFG:∀ x,F x→¬G x) (hl:hs.length+4≤10000000000000):
 Calls prog 61 #[.pointer (some ⟨b,0,none⟩),.pointer (some ⟨pb,0,none⟩)] w fun e w'=>e=.returned (.bool true)∧Yht w w' b vps hs G a mb k F q:=by
 obtain ⟨XS,S,hS⟩:=Yuo h
 have KD:Hid (Calls prog 35 #[.pointer (some ⟨a,0,none⟩)] w fun e w1=>∃ p n cap,e=.returned (.tuple #[.slice p n cap,.int .i64 0])∧Yuq w w1 b pb a mb vps hs G k F q (.slice p n cap)):=by
  refine (Y2x S).mono ?_;rintro e w1 ⟨v,h1,B,ps,h2,h3,h4,h5,h6,h7⟩;obtain ⟨k1,k2,k3⟩:=hS w1 B h3 h6 h7;obtain ⟨p,cap,rfl,_⟩:=Ya6 h2;exact ⟨p,_,cap,h1,Y46 H hFG hp hl h2 h3 h4 h5 k1 (fun x hx=>hx) h.lt k2 k3⟩
 have c0:w.cell? ⟨pb,0,none⟩=some (.pointer (some ⟨a,0,none⟩)):=Yaa (j:=0) hp.cell rfl
 clear h hp H hFG hS S
 go_enter func61,ntmps61
 go_wp2_with (first
  | (go_at_call 35;go_must (
   refine KD.out.mono ?_;rintro e w1 ⟨p,n,cap,rfl,hm⟩;obtain ⟨m1,m2,⟨vp,m3,m4⟩,m5⟩:=hm;have KS:=Yh m4;have KK:=Yh m5;clear m4 m5))
  | (go_at_call 87;go_must (
   refine KS.out.mono ?_;rintro e w2 ⟨rfl,hb2⟩;have KK2:=Yh (KK.out w2 hb2);clear hb2 KK KS))
  | (go_at_call 88;go_must (
   refine KK2.out.mono ?_;rintro e w3 ⟨rfl,hd⟩;have HD:=Yh hd;clear hd)))
 go_ret
 exact ⟨rfl,HD.out⟩
structure Y48 (w w1:World) (b pb a mb:Nat) (vps:Value) (hs:List (Nat×Yav)) (G:Nat→Prop) (k:Bool) (F:Nat→Prop) (q n:Nat) (log:List Yac) (p pl:Option Addr) (cap capl:Nat):Prop where
 plr:w1.cell? ⟨pb,1,none⟩=some (.pointer (some ⟨mb,0,none⟩))
 dead:w1.cell? ⟨mb,1,none⟩=some (.bool false)
 lg:w1.cell? ⟨mb,8,none⟩=some (.slice pl n capl)
 len:log.length=n∧n≤240
 ra:w1.ownsRow 0 152 9 (.slice p n cap) n (Ybf log)
 rb:w1.ownsRow 0 152 9 (.slice pl n capl) n (Ybf log)
 keep:∀ w2,Below w1.heap.size w1 w2→Calls prog 88 #[.pointer (some ⟨b,0,none⟩),.pointer (some ⟨w2.heap.size,0,none⟩)] (w2.alloc (.cells #[.slice none 0 0,.slice p n cap,.slice none 0 0,.int .i64 0] 150)) fun e w'=>e=.returned (.tuple #[])∧Yht w w' b vps hs G a mb k F q
theorem Y49 (H:Ycn w b v0 vps hs G) (hFG:∀ x,F x→¬G x) (hl:hs.length+4≤10000000000000)
 (hrow:w1.ownsRow B 152 9 v N xs) (hN:N≤240) (hB:w.heap.size≤B) (hF1:Yc2 w1 a mb k P P F1 q q) (hFs:∀ x,F1 x→F x∨(w.heap.size≤x∧x<B∧x<w1.heap.size)) (hFlt:∀ x,F x→x<w.heap.size) (hb1:Below 0 w w1) (hoff1:∀ x,x<w.heap.size→¬F x→w1.heap[x]? = w.heap[x]?) (w2:World) (hb2:Below w1.heap.size w1 w2):
 Calls prog 88 #[.pointer (some ⟨b,0,none⟩),.pointer (some ⟨w2.heap.size,0,none⟩)] (w2.alloc (.cells #[.slice none 0 0,v,.slice none 0 0,.int .i64 0] 150)) fun e w'=>e=.returned (.tuple #[])∧Yht w w' b vps hs G a mb k F q:=by
 have z1:=hb1.size
 have z2:=hb2.size
 have hb3:Below w1.heap.size w1 (w2.alloc (.cells #[.slice none 0 0,v,.slice none 0 0,.int .i64 0] 150)):=hb2.alloc z2 _
 have hhb:(w2.alloc (.cells #[.slice none 0 0,v,.slice none 0 0,.int .i64 0] 150)).heap[w2.heap.size]? = some (.cells #[.slice none 0 0,v,.slice none 0 0,.int .i64 0] 150 (0,0)):=heap_alloc_new _ _
 have hz3:(w2.alloc (.cells #[.slice none 0 0,v,.slice none 0 0,.int .i64 0] 150)).heap.size=w2.heap.size+1:=by simp
 have H3:Ycn (w2.alloc (.cells #[.slice none 0 0,v,.slice none 0 0,.int .i64 0] 150)) b v0 vps hs G:=H.frame (fun x hx=>(hb3.block x (by have:=H.lt x hx;omega)).trans (hoff1 x (H.lt x hx) (fun hf=>hFG x hf hx))) (by omega)
 have r3:=Ybe hrow hb3 (fun g hg=>(hrow.lt g hg).2)
 have hrw:∀ g,Ycf (w2.heap.size,⟨.slice none 0 0,v,.slice none 0 0,0,N,0,hs.length+1⟩) g→g=w2.heap.size∨v.ownBlock=some g:=fun g hg=>by
  rcases hg with hg | hg | hg | hg
  ·exact .inl hg
  ·cases hg
  ·exact .inr hg
  ·cases hg
 have hrow':∀ g,Ycf (w2.heap.size,⟨.slice none 0 0,v,.slice none 0 0,0,N,0,hs.length+1⟩) g→w.heap.size≤g∧¬F1 g∧g<w2.heap.size+1:=fun g hg=>by
  rcases hrw g hg with hg | hg
  ·exact ⟨by omega,fun hf=>by have:=hF1.lt g hf;omega,by omega⟩
  ·have:=hrow.lt g hg
   refine ⟨by omega,fun hf=>?_,by omega⟩;rcases hFs g hf with h1 | h1
   ·have:=hFlt g h1;omega
   ·omega
 refine (Yum _ b w2.heap.size v0 vps hs G ⟨.slice none 0 0,v,.slice none 0 0,0,N,0,hs.length+1⟩ H3 hhb (fun g hg hG=>?_) (fun g hg=>by have:=(hrow' g hg).2.2;omega) rfl ⟨Nat.zero_le _,by show N≤99980;omega,Nat.zero_le _⟩ hl (fun W hW hWk=>?_)).mono ?_
 ·have h1:=(hrow' g hg).1
  have h2:=H.lt g hG;omega
 ·have hvb:v.ownBlock≠some w2.heap.size:=fun e=>by have:=(hrow.lt _ e).2;omega
  have r4:=Yeu (Yas r3 (fun g hg=>hWk g (fun e=>hvb (by rw [←e];exact hg)))) (Nat.zero_le B);refine (Y4l W w2.heap.size (hs.length+1) N 0 v _ (by omega) hW r4 (by omega) hvb).mono ?_;rintro e w' ⟨h1,M⟩;exact ⟨h1,Y4z M hW hvb (by omega) (by omega),M.below,fun x hx hn=>M.off x hx (fun e=>hn (.inr (.inr (.inl e))))⟩
 ·rintro e w' ⟨h1,K⟩
  exact ⟨h1,Yun hF1 (fun x hx=>(hFs x hx).imp id (·.1)) hb1 hoff1 H.lt hFG (fun g hg=>⟨(hrow' g hg).1,(hrow' g hg).2.1⟩) hb2 K⟩
theorem Y5a (h:Ydr w a mb k P F q q) (hp:Yee w pb a mb F) (H:Ycn w b v0 vps hs G) (hFG:∀ x,F x→¬G x) (hl:hs.length+4≤10000000000000):
 Calls prog 36 #[.pointer (some ⟨a,0,none⟩)] w fun e w1=>∃ n log p pl cap capl,e=.returned (.tuple #[.slice p n cap,.int .i64 0])∧Y48 w w1 b pb a mb vps hs G k F q n log p pl cap capl:=by
 obtain ⟨XS,S,hS⟩:=Yuo h
 refine (Y22 S).mono ?_
 rintro e w1 ⟨v,h1,h2,h3,h4⟩
 obtain ⟨k1,k2,k3⟩:=hS w1 w.heap.size (Nat.le_refl _) h3 h4
 obtain ⟨n,s,l,pairs,other,log,m1,A,_⟩:=Yup k1
 have hlog:=A.log
 subst hlog
 have hN:P.log.length≤240:=by
  have h5:=k1.fit.2.cost;have h6:=k1.fit.2.acts;omega
 obtain ⟨p,cap,rfl,_⟩:=Ya6 h2
 have hlg:=m1.lg
 have hc8:w1.cell? ⟨mb,8,none⟩=some s.vl:=Yaa (j:=8) m1.cell rfl
 obtain ⟨pl,capl,hvl,_⟩:=Ya6 hlg
 rw [hvl] at hlg hc8
 refine ⟨_,P.log,p,pl,cap,capl,h1,⟨?_,?_,hc8,⟨rfl,hN⟩,Yeu h2 (Nat.zero_le _),hlg,fun w2 hb2=>Y49 H hFG hl h2 hN (Nat.le_refl _) k1 (fun x hx=>hx) h.lt k2 k3 w2 hb2⟩⟩
 ·exact (World.cell?_of_block (a:=⟨pb,1,none⟩) (k3 pb (Yaz hp.cell) hp.out)).trans (Yaa (j:=1) hp.cell rfl)
 ·have:w1.cell? ⟨mb,1,none⟩=some (.bool n.dead):=Yaa (j:=1) m1.cell rfl
  rw [A.dead] at this;exact this
theorem Y5b (h:Ydr w a mb k P F q q) (hp:Yee w pb a mb F) (H:Ycn w b v0 vps hs G) (hFG:∀ x,F x→¬G x) (hl:hs.length+4≤10000000000000):
 Calls prog 62 #[.pointer (some ⟨b,0,none⟩),.pointer (some ⟨pb,0,none⟩)] w fun e w'=>e=.returned (.bool true)∧Yht w w' b vps hs G a mb k F q:=by
 have KD:=Yh (Y5a h hp H hFG hl)
 have c0:w.cell? ⟨pb,0,none⟩=some (.pointer (some ⟨a,0,none⟩)):=Yaa (j:=0) hp.cell rfl
 clear h hp H hFG
 go_enter func62,ntmps62
 go_wp2_with (first
  | (go_at_call 36;go_must (
   refine KD.out.mono ?_;rintro e w1 ⟨n,log,p,pl,cap,capl,rfl,hm⟩;obtain ⟨m1,m2,m3,m4,m5,m6,m7⟩:=hm;have HL:=Yh m4;have RA:=Yh m5;have RB:=Yh m6;have hn240:n≤240:=m4.2;have KK:=Yh m7;clear m4 m5 m6 m7 c0)))
 go_loopw [7,9] (fun okv iv wr=>∃ j:Nat,j≤n∧okv=.bool true∧iv=.int .i64 j∧Below w1.heap.size w1 wr∧∀ x:Nat,wr.heap[x]? = w1.heap[x]?) (fun _ iv _=>n - (intOf iv).toNat)
 case atStart=>exact ⟨0,by omega,by simp,rfl,Below.refl _ _,fun _=>rfl⟩
 case round=>
  obtain ⟨j,hj,rfl,rfl,hB,hs⟩:=hrel;have HBw:=Yh hB;have HSW:=Yh hs;by_cases hlt:j<n
  ·have hlt':(j:Int)<(n:Int):=by omega
   obtain ⟨g,ca',e1⟩:=Ybn RA.out (by omega);simp only [Value.slice.injEq] at e1;obtain ⟨rfl,-,rfl⟩:=e1;obtain ⟨gl,cb',e2⟩:=Ybn RB.out (by omega);simp only [Value.slice.injEq] at e2;obtain ⟨rfl,-,rfl⟩:=e2;have hjl:j<log.length:=by have:=HL.out;omega
   have hq:=Ybx log j log[j] (List.getElem?_eq_getElem hjl);generalize log[j]=en at hq;obtain ⟨e0,e1,e2,e3,e4,e5,e6,e7,e8⟩:=en;have a0:wr.cell? ⟨g,j*9,none⟩=some (.int .i64 e0):=(World.cell?_of_block (a:=⟨g,j*9,none⟩) (hs g)).trans (Yal RA.out (hq 0 _ rfl));have a1:wr.cell? ⟨g,j*9+1,none⟩=some (.int .i64 e1):=(World.cell?_of_block (a:=⟨g,j*9+1,none⟩) (hs g)).trans (Yal RA.out (hq 1 _ rfl));have a2:wr.cell? ⟨g,j*9+2,none⟩=some (.int .i64 e2):=(World.cell?_of_block (a:=⟨g,j*9+2,none⟩) (hs g)).trans (Yal RA.out (hq 2 _ rfl));have a3:wr.cell? ⟨g,j*9+3,none⟩=some (.int .i64 e3):=(World.cell?_of_block (a:=⟨g,j*9+3,none⟩) (hs g)).trans (Yal RA.out (hq 3 _ rfl));have a4:wr.cell? ⟨g,j*9+4,none⟩=some (.string e4):=(World.cell?_of_block (a:=⟨g,j*9+4,none⟩) (hs g)).trans (Yal RA.out (hq 4 _ rfl));have a5:wr.cell? ⟨g,j*9+5,none⟩=some (.bool e5):=(World.cell?_of_block (a:=⟨g,j*9+5,none⟩) (hs g)).trans (Yal RA.out (hq 5 _ rfl));have a6:wr.cell? ⟨g,j*9+6,none⟩=some (.string e6):=(World.cell?_of_block (a:=⟨g,j*9+6,none⟩) (hs g)).trans (Yal RA.out (hq 6 _ rfl));have a7:wr.cell? ⟨g,j*9+7,none⟩=some (.bool e7):=(World.cell?_of_block (a:=⟨g,j*9+7,none⟩) (hs g)).trans (Yal RA.out (hq 7 _ rfl));have a8:wr.cell? ⟨g,j*9+8,none⟩=some (.string e8):=(World.cell?_of_block (a:=⟨g,j*9+8,none⟩) (hs g)).trans (Yal RA.out (hq 8 _ rfl));have b0:wr.cell? ⟨gl,j*9,none⟩=some (.int .i64 e0):=(World.cell?_of_block (a:=⟨gl,j*9,none⟩) (hs gl)).trans (Yal RB.out (hq 0 _ rfl));have b1:wr.cell? ⟨gl,j*9+1,none⟩=some (.int .i64 e1):=(World.cell?_of_block (a:=⟨gl,j*9+1,none⟩) (hs gl)).trans (Yal RB.out (hq 1 _ rfl));have b2:wr.cell? ⟨gl,j*9+2,none⟩=some (.int .i64 e2):=(World.cell?_of_block (a:=⟨gl,j*9+2,none⟩) (hs gl)).trans (Yal RB.out (hq 2 _ rfl));have b3:wr.cell? ⟨gl,j*9+3,none⟩=some (.int .i64 e3):=(World.cell?_of_block (a:=⟨gl,j*9+3,none⟩) (hs gl)).trans (Yal RB.out (hq 3 _ rfl));have b4:wr.cell? ⟨gl,j*9+4,none⟩=some (.string e4):=(World.cell?_of_block (a:=⟨gl,j*9+4,none⟩) (hs gl)).trans (Yal RB.out (hq 4 _ rfl));have b5:wr.cell? ⟨gl,j*9+5,none⟩=some (.bool e5):=(World.cell?_of_block (a:=⟨gl,j*9+5,none⟩) (hs gl)).trans (Yal RB.out (hq 5 _ rfl));have b6:wr.cell? ⟨gl,j*9+6,none⟩=some (.string e6):=(World.cell?_of_block (a:=⟨gl,j*9+6,none⟩) (hs gl)).trans (Yal RB.out (hq 6 _ rfl));have b7:wr.cell? ⟨gl,j*9+7,none⟩=some (.bool e7):=(World.cell?_of_block (a:=⟨gl,j*9+7,none⟩) (hs gl)).trans (Yal RB.out (hq 7 _ rfl));have b8:wr.cell? ⟨gl,j*9+8,none⟩=some (.string e8):=(World.cell?_of_block (a:=⟨gl,j*9+8,none⟩) (hs gl)).trans (Yal RB.out (hq 8 _ rfl));have q1:wr.cell? ⟨pb,1,none⟩=some (.pointer (some ⟨mb,0,none⟩)):=(World.cell?_of_block (a:=⟨pb,1,none⟩) (hs pb)).trans m1;have q2:wr.cell? ⟨mb,8,none⟩=some (.slice (some ⟨gl,0,none⟩) n capl):=(World.cell?_of_block (a:=⟨mb,8,none⟩) (hs mb)).trans m3;clear hs hB hq hjl;go_upto_region 7 with fail
   go_region_held3 (fun w'=>w'.cell? ⟨pb,1,none⟩=some (.pointer (some ⟨mb,0,none⟩))∧w'.cell? ⟨mb,8,none⟩=some (.slice (some ⟨gl,0,none⟩) n capl)∧w'.cell? ⟨g,j*9,none⟩=some (.int .i64 e0)∧w'.cell? ⟨g,j*9+1,none⟩=some (.int .i64 e1)∧w'.cell? ⟨g,j*9+2,none⟩=some (.int .i64 e2)∧w'.cell? ⟨g,j*9+3,none⟩=some (.int .i64 e3)∧w'.cell? ⟨g,j*9+4,none⟩=some (.string e4)∧w'.cell? ⟨g,j*9+5,none⟩=some (.bool e5)∧w'.cell? ⟨g,j*9+6,none⟩=some (.string e6)∧w'.cell? ⟨g,j*9+7,none⟩=some (.bool e7)∧w'.cell? ⟨g,j*9+8,none⟩=some (.string e8)∧w'.cell? ⟨gl,j*9,none⟩=some (.int .i64 e0)∧w'.cell? ⟨gl,j*9+1,none⟩=some (.int .i64 e1)∧w'.cell? ⟨gl,j*9+2,none⟩=some (.int .i64 e2)∧w'.cell? ⟨gl,j*9+3,none⟩=some (.int .i64 e3)∧w'.cell? ⟨gl,j*9+4,none⟩=some (.string e4)∧w'.cell? ⟨gl,j*9+5,none⟩=some (.bool e5)∧w'.cell? ⟨gl,j*9+6,none⟩=some (.string e6)∧w'.cell? ⟨gl,j*9+7,none⟩=some (.bool e7)∧w'.cell? ⟨gl,j*9+8,none⟩=some (.string e8))
    (go_keep)
    (fail)
   all_goals
    go_wp2;exact ⟨⟨j+1,by omega,by simp,by simp,HBw.out.drew,HSW.out⟩,by simp [intOf];omega⟩
  ·have hlt':¬(j:Int)<(n:Int):=by omega
   have KK2:=Yh (KK.out wr hB);clear hs hB KK;go_wp2_with (first
    | (go_at_call 88;go_must (
     refine KK2.out.mono ?_;rintro e w3 ⟨rfl,hd⟩;have HD:=Yh hd;clear hd)))
   go_ret;exact ⟨rfl,HD.out⟩
theorem Y5c (pb:Nat) (hblk:W.heap[b]? = some (.cells #[v,vps] 77 (0,0))) (hr:W.ownsRow 0 84 1 vps n xs) (hn:n<6) (ty:TypeId):
 ∃ g cap w4,(Builtin.append_ #[75,75] ty #[vps,.slice (some ⟨W.heap.size,0,none⟩) 1 1]).run prog (W.alloc (.cells #[.pointer (some ⟨pb,0,none⟩)] 84))=.ok (.slice (some ⟨g,0,none⟩) (n+1) cap) w4 ∧
  w4.heap[b]? = some (.cells #[v,vps] 77 (0,0)) ∧
  (w4.setCell ⟨b,1,none⟩ (.slice (some ⟨g,0,none⟩) (n+1) cap)).heap[b]? = some (.cells #[v,.slice (some ⟨g,0,none⟩) (n+1) cap] 77 (0,0)) ∧
  (w4.setCell ⟨b,1,none⟩ (.slice (some ⟨g,0,none⟩) (n+1) cap)).ownsRow 0 84 1 (.slice (some ⟨g,0,none⟩) (n+1) cap) (n+1) (xs ++ [.pointer (some ⟨pb,0,none⟩)]) ∧
  (vps.ownBlock=some g∨W.heap.size≤g) ∧
  Below 0 W (w4.setCell ⟨b,1,none⟩ (.slice (some ⟨g,0,none⟩) (n+1) cap)) ∧
  ∀ x,x<W.heap.size→x≠b→vps.ownBlock≠some x→(w4.setCell ⟨b,1,none⟩ (.slice (some ⟨g,0,none⟩) (n+1) cap)).heap[x]? = W.heap[x]?:=by
 obtain ⟨i0,hi,hz0,hz1,hz2⟩:=info_parts Yvk
 obtain ⟨W3,hW3⟩:∃ W3,W3=W.alloc (.cells #[.pointer (some ⟨pb,0,none⟩)] 84):=⟨_,rfl⟩
 have hB3:Below W.heap.size W W3:=by rw [hW3];exact (Below.refl _ _).alloc (Nat.le_refl _) _
 have hN3:W3.heap[W.heap.size]? = some (.cells #[.pointer (some ⟨pb,0,none⟩)] 84 (0,0)):=by rw [hW3];exact heap_alloc_new W _
 have hz3:W3.heap.size=W.heap.size+1:=by rw [hW3];simp
 have r3:=Ybe hr hB3 (fun g hg=>(hr.lt g hg).2)
 obtain ⟨g,cap,w4,k1,k2,k3,k4⟩:=Ykt W3 75 ty 0 84 i0 _ 1 8 underlying75 hi hz0 hz1 hz2 rfl (by omega) vps n _ r3 ⟨W.heap.size,0,none⟩ 1 [.pointer (some ⟨pb,0,none⟩)] rfl (fun j u hu=>by rw [Ydg];exact Yaa hN3 (by simpa using hu)) (fun u hu=>by simp at hu;subst hu;rfl) (by unfold maxLen;omega) (by omega) (by omega)
 have hkeep:∀ x,x<W.heap.size→vps.ownBlock≠some x→w4.heap[x]? = W.heap[x]?:=fun x hx hn=>(k3.block x (by omega) (fun e=>hn e.symm)).trans (hB3.block x hx)
 have hvb:vps.ownBlock≠some b:=Yc3 hr hblk (by decide)
 have hbw:b<W.heap.size:=Yaz hblk
 have hcb:=(hkeep b hbw hvb).trans hblk
 rw [hW3] at k1
 refine ⟨g,cap,w4,k1,hcb,Yak w4 b 1 (.slice (some ⟨g,0,none⟩) (n+1) cap) _ _ hcb,?_⟩
 have hY:∀ x,x≠b→(w4.setCell ⟨b,1,none⟩ (.slice (some ⟨g,0,none⟩) (n+1) cap)).heap[x]? = w4.heap[x]?:=fun x hx=>Below.heap_setCell _ _ _ _ hx
 have hYb:Below 0 W (w4.setCell ⟨b,1,none⟩ (.slice (some ⟨g,0,none⟩) (n+1) cap)):=((hB3.mono (Nat.zero_le _)).trans ⟨k3.os,k3.tape,k3.output,k3.size,fun x hx=>by omega⟩).setCell (p:=⟨b,1,none⟩) (by simp) _
 generalize w4.setCell ⟨b,1,none⟩ (.slice (some ⟨g,0,none⟩) (n+1) cap)=Y at hY hYb ⊢
 have hgb:g≠b:=fun e=>by
  have:=Yc3 k2 hcb (by decide);exact this (by rw [←e];rfl)
 have hgx:∀ x,(Value.slice (some ⟨g,0,none⟩) (n+1) cap).ownBlock=some x→g=x:=fun x hx=>by simpa [Value.ownBlock] using hx
 refine ⟨Yas k2 (fun x hx=>hY x (fun e=>hgb ((hgx x hx).trans e))),?_,hYb,fun x hx h1 h2=>(hY x h1).trans (hkeep x hx h2)⟩
 rcases k4 with k4 | ⟨k4,_⟩
 ·exact .inl k4
 ·exact .inr (by omega)
structure Yjq (w w':World) (b:Nat) (v vps:Value) (n:Nat) (xs:List Value) (vps':Value) (pb a mb:Nat) (k:Bool) (F:Nat→Prop):Prop where
 blk:w'.heap[b]? = some (.cells #[v,vps'] 77 (0,0))
 row:w'.ownsRow 0 84 1 vps' (n+1) (xs ++ [.pointer (some ⟨pb,0,none⟩)])
 at':∀ g,vps'.ownBlock=some g→(vps.ownBlock=some g∨w.heap.size≤g)∧¬F g∧g≠pb
 play:Ydr w' a mb k Sp.empty F 0 0
 plr:Yee w' pb a mb F
 new:(∀ x,F x→w.heap.size≤x)∧w.heap.size≤pb
 below:Below 0 w w'
 off:∀ x,x<w.heap.size→x≠b→vps.ownBlock≠some x→w'.heap[x]? = w.heap[x]?
theorem Y5d {s:Sv} (m:Int) (hm:m=if k then 0 else 1) (hb:Below w.heap.size w w1) (hn:Yhn w w1 a k s):Ydr (w1.alloc (.cells (Yc6 ⟨m,false,false,0,0⟩ ⟨.slice none 0 0,.slice none 0 0,.slice none 0 0,.slice none 0 0⟩) 119)) a w1.heap.size k Sp.empty (fun x=>w.heap.size≤x∧x<w1.heap.size+1) 0 0:=by
 have z:=hb.size;have hS:Yhr w1 a k Sp.empty (fun x=>w.heap.size≤x∧x<w1.heap.size) 0:=⟨(Y12 hn hb).less (fun x hx=>by
  obtain ⟨h1,h2⟩:=hx;by_cases h3:x<w.heap.size
  ·exact h3
  ·exact absurd ⟨by omega,h1⟩ h2),⟨hn.new.1,hn.live.haw⟩,fun x hx=>hx.2⟩
 have hS2:=hS.frame (w':=w1.alloc (.cells (Yc6 ⟨m,false,false,0,0⟩ ⟨.slice none 0 0,.slice none 0 0,.slice none 0 0,.slice none 0 0⟩) 119)) (fun x hx=>Below.heap_alloc _ _ _ hx.2) (by simp);refine ⟨_,_,hS2,Y4n m k hm w1,fun x h1 h2=>by omega,fun x=>?_⟩;constructor
 ·intro hx;by_cases h:x<w1.heap.size
  ·exact .inl ⟨hx.1,h⟩
  ·exact .inr (by omega)
 ·rintro (hx | hx)
  ·exact ⟨hx.1,by omega⟩
  ·exact ⟨by omega,by omega⟩
theorem Y5e {w4:World} (hblk:w.heap[b]? = some (.cells #[v,vps] 77 (0,0))) (hr:w.ownsRow 0 84 1 vps n xs)
 (hP:Ydr w1 a mb k Sp.empty F 0 0) (hF:∀ x,F x→w.heap.size≤x∧x<w1.heap.size) (hb1:Below w.heap.size w w1) (hW:W=w1.alloc (.cells #[.pointer (some ⟨a,0,none⟩),.pointer (some ⟨mb,0,none⟩),.bool false] 83)) (hpb:pb=w1.heap.size)
 (k2:w4.heap[b]? = some (.cells #[v,.slice (some ⟨g,0,none⟩) (n+1) cap] 77 (0,0))) (k3:w4.ownsRow 0 84 1 (.slice (some ⟨g,0,none⟩) (n+1) cap) (n+1) (xs ++ [.pointer (some ⟨pb,0,none⟩)])) (k4:vps.ownBlock=some g∨W.heap.size≤g) (k5:Below 0 W w4) (k6:∀ x,x<W.heap.size→x≠b→vps.ownBlock≠some x→w4.heap[x]? = W.heap[x]?):Yjq w w4 b v vps n xs (.slice (some ⟨g,0,none⟩) (n+1) cap) pb a mb k F:=by
 have z1:=hb1.size
 have hbW:Below w.heap.size w W:=by rw [hW];exact hb1.alloc z1 _
 have hzW:W.heap.size=w1.heap.size+1:=by rw [hW];simp
 have hcp:W.heap[pb]? = some (.cells #[.pointer (some ⟨a,0,none⟩),.pointer (some ⟨mb,0,none⟩),.bool false] 83 (0,0)):=by rw [hW,hpb];exact heap_alloc_new _ _
 have hbw:=Yaz hblk
 have hvl:∀ x,vps.ownBlock=some x→x<w.heap.size:=fun x hx=>(hr.lt x hx).2
 have hz5:=k5.size
 have hnew:∀ x,w.heap.size≤x→x<W.heap.size→w4.heap[x]? = W.heap[x]?:=fun x h1 h2=>k6 x h2 (by omega) (fun e=>by have:=hvl x e;omega)
 refine ⟨k2,k3,fun x hx=>?_,hP.frame (fun x hx=>?_) (by omega),⟨(hnew pb (by omega) (by omega)).trans hcp,fun hf=>by have:=(hF pb hf).2;omega⟩,⟨fun x hx=>(hF x hx).1,by omega⟩,(hbW.mono (Nat.zero_le _)).trans k5,fun x hx h1 h2=>(k6 x (by omega) h1 h2).trans (hbW.block x hx)⟩
 ·have hgx:g=x:=by simpa [Value.ownBlock] using hx
  subst hgx;rcases k4 with k4 | k4
  ·have:=hvl g k4
   exact ⟨.inl k4,fun hf=>by have:=(hF g hf).1;omega,by omega⟩
  ·exact ⟨.inr (by omega),fun hf=>by have:=(hF g hf).2;omega,by omega⟩
 ·obtain ⟨h1,h2⟩:=hF x hx
  rw [hnew x h1 (by omega),hW];exact Below.heap_alloc _ _ _ h2
theorem Yo4 (m:Int) (k:Bool) (hm:m=if k then 0 else 1) (hn:∀ w,Calls prog 40 #[.int .i64 m] w fun e w'=>∃ a s,e=.returned (.tuple #[.pointer (some ⟨a,0,none⟩),.int .i64 0])∧Below w.heap.size w w'∧Yhn w w' a k s)
 (b:Nat) (o:OpV) (hom:o.mode=m) (w:World) (v vps:Value) (n:Nat) (xs:List Value) (hblk:w.heap[b]? = some (.cells #[v,vps] 77 (0,0))) (hr:w.ownsRow 0 84 1 vps n xs) (h6:n<6):
 Calls prog 37 #[.pointer (some ⟨b,0,none⟩),.agg o.cells.toArray] w fun e w'=>e=.returned (.bool true)∧∃ vps' pb a mb F,Yjq w w' b v vps n xs vps' pb a mb k F:=by
 have hm01:m=0∨m=1:=by cases k <;> simp_all
 have KN:=Yh hn
 have HF:Hid (∀ w0 w1 w2 a s,Below w.heap.size w w0→Below w0.heap.size w0 w1→Yhn w0 w1 a k s→w2=w1.alloc (.cells (Yc6 ⟨m,false,false,0,0⟩ ⟨.slice none 0 0,.slice none 0 0,.slice none 0 0,.slice none 0 0⟩) 119)→w2.cell? ⟨b,1,none⟩=some vps∧∃ g cap w4,(Builtin.append_ #[75,75] 75 #[vps,.slice (some ⟨w2.heap.size+1,0,none⟩) 1 1]).run prog ((w2.alloc (.cells #[.pointer (some ⟨a,0,none⟩),.pointer (some ⟨w1.heap.size,0,none⟩),.bool false] 83)).alloc (.cells #[.pointer (some ⟨w2.heap.size,0,none⟩)] 84))=.ok (.slice (some ⟨g,0,none⟩) (n+1) cap) w4∧w4.heap[b]? = some (.cells #[v,vps] 77 (0,0))∧Yjq w (w4.setCell ⟨b,1,none⟩ (.slice (some ⟨g,0,none⟩) (n+1) cap)) b v vps n xs (.slice (some ⟨g,0,none⟩) (n+1) cap) w2.heap.size a w1.heap.size k (fun x=>w0.heap.size≤x∧x<w1.heap.size+1)):=fun w0 w1 w2 a s hb0 hb1 hs hw2=>by
  have z0:=hb0.size;have z1:=hb1.size;have hz2:w2.heap.size=w1.heap.size+1:=by rw [hw2];simp
  have hb2:Below w.heap.size w w2:=by rw [hw2];exact (hb0.trans (hb1.mono z0)).alloc (by omega) _
  have hP:Ydr w2 a w1.heap.size k Sp.empty (fun x=>w0.heap.size≤x∧x<w1.heap.size+1) 0 0:=by rw [hw2];exact Y5d m hm hb1 hs
  have hb3:Below w.heap.size w (w2.alloc (.cells #[.pointer (some ⟨a,0,none⟩),.pointer (some ⟨w1.heap.size,0,none⟩),.bool false] 83)):=hb2.alloc (by omega) _;have hz3:(w2.alloc (.cells #[.pointer (some ⟨a,0,none⟩),.pointer (some ⟨w1.heap.size,0,none⟩),.bool false] 83)).heap.size=w2.heap.size+1:=by simp
  have hbk:=(hb3.block b (Yaz hblk)).trans hblk;have hrk:=Ybe hr hb3 (fun g hg=>(hr.lt g hg).2);obtain ⟨g,cap,w4,k1,k1b,k2,k3,k4,k5,k6⟩:=Y5c w2.heap.size hbk hrk h6 75;rw [hz3] at k1;refine ⟨Yaa (j:=1) ((hb2.block b (Yaz hblk)).trans hblk) rfl,g,cap,w4,k1,k1b,?_⟩;exact Y5e hblk hr hP (fun x hx=>⟨by omega,by omega⟩) hb2 rfl rfl k2 k3 k4 k5 k6
 clear hn hblk hr hm
 obtain ⟨kd,on,om,t,key,val,keep,tear,fuse⟩:=o
 simp only at hom
 subst hom
 simp only [OpV.cells]
 obtain ⟨W0,hW0⟩:∃ W0,W0=w.alloc (.cells #[.int .i64 kd,.int .i64 on,.int .i64 om,.int .i64 t,.string key,.string val,.int .u64 keep,.int .i64 tear,.int .i64 fuse] 80):=⟨_,rfl⟩
 have hb0:Below w.heap.size w W0:=by rw [hW0];exact (Below.refl _ _).alloc (Nat.le_refl _) _
 have hnew:W0.heap[w.heap.size]? = some (.cells #[.int .i64 kd,.int .i64 on,.int .i64 om,.int .i64 t,.string key,.string val,.int .u64 keep,.int .i64 tear,.int .i64 fuse] 80 (0,0)):=by rw [hW0];exact heap_alloc_new _ _
 have c2:W0.cell? ⟨w.heap.size,2,none⟩=some (.int .i64 om):=Yaa hnew rfl
 have hlt0:w.heap.size<W0.heap.size:=Yaz hnew
 have HB0:=Yh hb0
 clear hb0 hnew
 go_enter func37,ntmps37
 go_upto_region 1 with fail
 rw [←hW0]
 clear hW0
 go_upto_region 2 with (first
  | (go_at_call 40;go_must (
   refine (KN.out W0).mono ?_;rintro e w1 ⟨a,s,rfl,hb,hs⟩;have d2:w1.cell? ⟨w.heap.size,2,none⟩=some (.int .i64 om):=(hb.cell hlt0).trans c2;have HB:=Yh hb;have HS:=Yh hs;clear hb hs c2 KN)))
 go_upto_region 3 with (first
  | (go_at_call 59;go_must (
   refine (Y4m om hm01 w1).mono ?_;rintro e w2 ⟨rfl,hw2⟩;obtain ⟨hcb,g,cap,w4,hr4,hb4,hM⟩:=HF.out W0 w1 w2 a s HB0.out HB.out HS.out hw2.symm;have HM:Hid (∃ F,Yjq w (w4.setCell ⟨b,1,none⟩ (.slice (some ⟨g,0,none⟩) (n+1) cap)) b v vps n xs (.slice (some ⟨g,0,none⟩) (n+1) cap) w2.heap.size a w1.heap.size k F):=⟨_,hM⟩;have hc4:w4.cell? ⟨b,1,none⟩=some vps:=Yaa (j:=1) hb4 rfl;have hf4:=Yah 1 hb4;clear hw2 hM hb4 HF HB HS d2)))
 go_wp2_with (first
  | (at_builtin;go_must (refine Ymb rfl _ _ 75 rfl vps _ _ rfl rfl hr4 ?_)))
 go_ret
 obtain ⟨F,hF⟩:=HM.out
 exact ⟨rfl,_,_,_,_,F,hF⟩
structure Plr where
 (pb a mb:Nat)
 (k:Bool)
 (P:Sp)
 (F:Nat→Prop)
def Yhu (p:Plr):Value:=.pointer (some ⟨p.pb,0,none⟩)
structure Ycj (N:Nat) (w:World) (b:Nat) (v vps:Value) (hs:List (Nat×Yav)) (G:Nat→Prop) (ps:List Plr) (q:Nat):Prop where
 hold:Ycn w b v vps hs G
 row:w.ownsRow 0 84 1 vps ps.length (ps.map Yhu)
 few:ps.length≤6
 plr:∀ p∈ps,Yee w p.pb p.a p.mb p.F
 play:∀ p∈ps,Ydr w p.a p.mb p.k p.P p.F q q
 apart:∀ (i j:Nat) (p p':Plr),ps[i]? = some p→ps[j]? = some p'→i≠j→∀ x,p.F x→¬p'.F x
 fG:∀ p∈ps,∀ x,p.F x→¬G x
 fV:∀ p∈ps,∀ x,p.F x→vps.ownBlock≠some x
 fP:∀ p∈ps,∀ p'∈ps,¬p.F p'.pb
 gV:∀ x,vps.ownBlock=some x→¬G x
 gP:∀ p∈ps,¬G p.pb
 lens:hs.length≤4*q
 base:(∀ x,G x→N≤x)∧(∀ x,vps.ownBlock=some x→N≤x)∧∀ p∈ps,∀ x,p.F x→N≤x
def Ymg (w w':World) (vps:Value) (G:Nat→Prop) (ps:List Plr):Prop:=Below 0 w w'∧∀ x,x<w.heap.size→¬G x→(∀ p∈ps,¬p.F x)→vps.ownBlock≠some x→w'.heap[x]? = w.heap[x]?
def Yck (N:Nat) (w w':World) (b:Nat) (vps:Value) (G:Nat→Prop) (ps:List Plr) (q:Nat):Prop:=(∃ v' vps' hs' G' ps',Ycj N w' b v' vps' hs' G' ps' (q+1))∧Ymg w w' vps G ps
variable {ps:List Plr}
theorem Ycj.upq {q':Nat} (L:Ycj N w b v vps hs G ps q) (hq:q≤q'):Ycj N w b v vps hs G ps q':=
 { L with play:=fun p hp=>(L.play p hp).upq hq hq,lens:=by have:=L.lens;omega }
theorem Ycj.below (L:Ycj N w b v vps hs G ps q) (hb:Below w.heap.size w w'):Ycj N w' b v vps hs G ps q:=
 {
  L with
  hold:=L.hold.frame (fun x hx=>hb.block x (L.hold.lt x hx)) hb.size
  row:=Ybe L.row hb (fun g hg=>(L.row.lt g hg).2)
  plr:=fun p hp=>⟨(hb.block _ (Yaz (L.plr p hp).cell)).trans (L.plr p hp).cell,(L.plr p hp).out⟩
  play:=fun p hp=>(L.play p hp).frame (fun x hx=>hb.block x ((L.play p hp).lt x hx)) hb.size }
theorem Y5f (hb:Below w.heap.size w w'):Ymg w w' vps G ps:=⟨hb.mono (Nat.zero_le _),fun x hx _ _ _=>hb.block x hx⟩
theorem Ycj.same (L:Ycj N w b v vps hs G ps q) (hb:Below w.heap.size w w'):Yck N w w' b vps G ps q:=
 ⟨⟨v,vps,hs,G,ps,(L.below hb).upq (by omega)⟩,Y5f hb⟩
theorem Yck.from (hb:Below w.heap.size w w1) (h:Yck N w1 w' b vps G ps q):Yck N w w' b vps G ps q:=
 ⟨h.1,(hb.mono (Nat.zero_le _)).trans h.2.1,fun x hx h1 h2 h3=>(h.2.2 x (by have:=hb.size;omega) h1 h2 h3).trans (hb.block x hx)⟩
theorem Yck.base (L:Ycj N w b v vps hs G ps q) (hN:N≤w.heap.size) (h:Ymg w w' vps G ps):Below N w w':=
 ⟨h.1.os,h.1.tape,h.1.output,h.1.size,fun x hx=>h.2 x (by omega) (fun hg=>by have:=L.base.1 x hg;omega) (fun p hp hf=>by have:=L.base.2.2 p hp x hf;omega) (fun e=>by have:=L.base.2.1 x e;omega)⟩
theorem Y5g {α:Type} {l:List α} {a x:α} (h:x∈l.set i a):(∃ j,j≠i∧l[j]? = some x)∨(x=a∧i<l.length):=by
 obtain ⟨j,hj⟩:=List.getElem?_of_mem h;by_cases e:j=i
 ·subst e
  rw [List.getElem?_set_self' ] at hj
  cases hl:l[j]? with
  | none=>rw [hl] at hj;cases hj
  | some y=>
   rw [hl] at hj;simp at hj;exact .inr ⟨hj.symm,(List.getElem?_eq_some_iff.1 hl).1⟩
 ·rw [List.getElem?_set_ne (fun h=>e h.symm)] at hj
  exact .inl ⟨j,e,hj⟩
theorem Yo5 {p:Plr} (L:Ycj N w b v vps hs G ps q) (hN:N≤w.heap.size) (hi:ps[i]? = some p) (D:Yht w w' b vps hs G p.a p.mb p.k p.F q):Yck N w w' b vps G ps q:=by
 obtain ⟨P',F',v',hs',G',h1,h2,h3,h4,h5,h6,h7,h8⟩:=D;have hpm:p∈ps:=List.mem_of_getElem? hi;have z:=h7.size;have hlen:(ps.set i ⟨p.pb,p.a,p.mb,p.k,P',F'⟩).length=ps.length:=List.length_set;have hvl:∀ x,vps.ownBlock=some x→x<w.heap.size:=fun x hx=>(L.row.lt x hx).2
 have hoth:∀ j p',j≠i→ps[j]? = some p'→∀ x,p'.F x→w'.heap[x]? = w.heap[x]?:=fun j p' hj hp' x hx=>h8 x ((L.play p' (List.mem_of_getElem? hp')).lt x hx) (fun hf=>L.apart j i p' p hp' hi hj x hx hf) (L.fG p' (List.mem_of_getElem? hp') x hx)
 have hpbs:∀ p'∈ps,w'.heap[p'.pb]? = w.heap[p'.pb]?:=fun p' hp'=>h8 _ (Yaz (L.plr p' hp').cell) (L.fP p hpm p' hp') (L.gP p' hp')
 have hFlt:∀ p'∈ps,∀ x,p'.F x→x<w.heap.size:=fun p' hp' x hx=>(L.play p' hp').lt x hx
 have hpblt:∀ p'∈ps,p'.pb<w.heap.size:=fun p' hp'=>Yaz (L.plr p' hp').cell
 have hF'pb:∀ p'∈ps,¬F' p'.pb:=fun p' hp' hf=>(h2 _ hf).elim (L.fP p hpm p' hp') (fun h=>by have:=hpblt p' hp';omega)
 have hG'lt:∀ x,G' x→x<w.heap.size→G x:=fun x hx hl=>(h5 x hx).elim id (fun h=>by omega)
 have hold:∀ x,x∈ps.set i ⟨p.pb,p.a,p.mb,p.k,P',F'⟩→(∃ j,j≠i∧ps[j]? = some x)∨x=⟨p.pb,p.a,p.mb,p.k,P',F'⟩:=fun x hx=>(Y5g hx).imp id (·.1)
 have hpbm:∀ x,x∈ps.set i ⟨p.pb,p.a,p.mb,p.k,P',F'⟩→∃ p'∈ps,p'.pb=x.pb:=fun x hx=>by
  rcases hold x hx with ⟨j,_,hj⟩ | rfl
  ·exact ⟨x,List.mem_of_getElem? hj,rfl⟩
  ·exact ⟨p,hpm,rfl⟩
 refine ⟨⟨v',vps,hs',G',ps.set i ⟨p.pb,p.a,p.mb,p.k,P',F'⟩,⟨h3,?_,by rw [hlen];exact L.few,fun x hx=>?_,fun x hx=>?_,fun i1 i2 p1 p2 e1 e2 hne x f1 f2=>?_,fun x hx y hy=>?_,fun x hx y hy=>?_,fun x hx y hy=>?_,fun x hx hg=>?_,fun x hx hg=>?_,by have:=L.lens;omega,⟨fun x hx=>?_,L.base.2.1,fun x hx y hy=>?_⟩⟩⟩,h7,fun x hx hg hf hv=>h8 x hx (hf p hpm) hg⟩
 ·rw [hlen]
  have hmap:(ps.set i ⟨p.pb,p.a,p.mb,p.k,P',F'⟩).map Yhu=ps.map Yhu:=by
   rw [List.map_set];refine List.ext_getElem? (fun j=>?_);by_cases e:i=j
   ·subst e
    rw [List.getElem?_set_self',List.getElem?_map,hi];rfl
   ·rw [List.getElem?_set_ne e]
  rw [hmap];exact Yas L.row (fun g hg=>h8 g (hvl g hg) (fun hf=>L.fV p hpm g hf hg) (L.gV g hg))
 ·rcases hold x hx with ⟨j,hji,hj⟩ | rfl
  ·have hm:=List.mem_of_getElem? hj
   exact ⟨(hpbs x hm).trans (L.plr x hm).cell,(L.plr x hm).out⟩
  ·exact ⟨(hpbs p hpm).trans (L.plr p hpm).cell,hF'pb p hpm⟩
 ·rcases hold x hx with ⟨j,hji,hj⟩ | rfl
  ·have hm:=List.mem_of_getElem? hj
   exact ((L.play x hm).frame (hoth j x hji hj) z).upq (by omega) (by omega)
  ·exact h1
 ·by_cases ea:i1=i
  ·subst ea
   rw [List.getElem?_set_self',hi] at e1;simp at e1;subst e1;rw [List.getElem?_set_ne hne] at e2;rcases h2 x f1 with h9 | h9
   ·exact L.apart i1 i2 p p2 hi e2 hne x h9 f2
   ·have:=hFlt p2 (List.mem_of_getElem? e2) x f2;omega
  ·rw [List.getElem?_set_ne (fun h=>ea h.symm)] at e1
   by_cases eb:i2=i
   ·subst eb
    rw [List.getElem?_set_self',hi] at e2;simp at e2;subst e2;rcases h2 x f2 with h9 | h9
    ·exact L.apart i1 i2 p1 p e1 hi hne x f1 h9
    ·have:=hFlt p1 (List.mem_of_getElem? e1) x f1;omega
   ·rw [List.getElem?_set_ne (fun h=>eb h.symm)] at e2
    exact L.apart i1 i2 p1 p2 e1 e2 hne x f1 f2
 ·rcases hold x hx with ⟨j,hji,hj⟩ | rfl
  ·have hm:=List.mem_of_getElem? hj
   exact fun hg=>L.fG x hm y hy (hG'lt y hg (hFlt x hm y hy))
  ·exact h6 y hy
 ·rcases hold x hx with ⟨j,hji,hj⟩ | rfl
  ·exact L.fV x (List.mem_of_getElem? hj) y hy
  ·intro e
   rcases h2 y hy with h9 | h9
   ·exact L.fV p hpm y h9 e
   ·have:=hvl y e;omega
 ·obtain ⟨p',hp',e⟩:=hpbm y hy
  rw [←e];rcases hold x hx with ⟨j,hji,hj⟩ | rfl
  ·exact L.fP x (List.mem_of_getElem? hj) p' hp'
  ·exact hF'pb p' hp'
 ·exact L.gV x hx (hG'lt x hg (hvl x hx))
 ·obtain ⟨p',hp',e⟩:=hpbm x hx
  rw [←e] at hg;exact L.gP p' hp' (hG'lt _ hg (hpblt p' hp'))
 ·rcases h5 x hx with h9 | h9
  ·exact L.base.1 x h9
  ·omega
 ·rcases hold x hx with ⟨j,hji,hj⟩ | rfl
  ·exact L.base.2.2 x (List.mem_of_getElem? hj) y hy
  ·rcases h2 y hy with h9 | h9
   ·exact L.base.2.2 p hpm y h9
   ·omega
theorem Yo6 (L:Ycj N w b v vps hs G ps q) (hN:N≤w.heap.size) (h6:ps.length<6) (M:Yjq w w' b v vps ps.length (ps.map Yhu) vps' pb a mb k F):Ycj N w' b v vps' hs G (ps ++ [⟨pb,a,mb,k,Sp.empty,F⟩]) (q+1)∧Ymg w w' vps G ps:=by
 have z:=M.below.size;have hvl:∀ x,vps.ownBlock=some x→x<w.heap.size:=fun x hx=>(L.row.lt x hx).2
 have hGlt:=L.hold.lt;have hGk:∀ x,G x→x≠b→w'.heap[x]? = w.heap[x]?:=fun x hx hb=>M.off x (hGlt x hx) hb (fun e=>L.gV x e hx)
 have H:=L.hold;have hpart:∀ x∈hs,∀ g,Ycf x g→w'.heap[g]? = w.heap[g]?:=fun x hx g hg=>hGk g (H.gx x hx g hg) (fun e=>Yij (H.each x hx) (H.typ x hx) H.blk (by decide) (e▸hg))
 have hH:Ycn w' b v vps' hs G:=⟨M.blk,Yas H.row (fun g hg=>hGk g (H.gv g hg) (fun e=>Yc3 H.row H.blk (by decide) (e▸hg))),fun x hx=>(H.each x hx).frame (hpart x hx) z,fun x hx=>(H.typ x hx).frame (fun g hg=>hpart x hx g (.inr hg)),H.gb,H.gv,H.gx,fun g hg=>by have:=hGlt g hg;omega⟩;have hFlt:∀ p'∈ps,∀ x,p'.F x→x<w.heap.size:=fun p' hp' x hx=>(L.play p' hp').lt x hx
 have hpblt:∀ p'∈ps,p'.pb<w.heap.size:=fun p' hp'=>Yaz (L.plr p' hp').cell
 have hbN:∀ p'∈ps,p'.pb≠b:=fun p' hp' e=>Yfx (e▸(L.plr p' hp').cell) H.blk (by decide)
 have hpv:∀ p'∈ps,vps.ownBlock≠some p'.pb:=fun p' hp'=>Yc3 L.row (L.plr p' hp').cell (by decide)
 have hmem:∀ x,x∈ps ++ [⟨pb,a,mb,k,Sp.empty,F⟩]→x∈ps∨x=⟨pb,a,mb,k,Sp.empty,F⟩:=fun x hx=>by simpa using hx
 have hgb:=L.hold.gb;refine ⟨⟨hH,?_,by simp;omega,fun x hx=>?_,fun x hx=>?_,fun i1 i2 p1 p2 e1 e2 hne x f1 f2=>?_,fun x hx y hy=>?_,fun x hx y hy e=>?_,fun x hx y hy hf=>?_,fun x hx hg=>?_,fun x hx hg=>?_,by have:=L.lens;omega,⟨L.base.1,fun x hx=>?_,fun x hx y hy=>?_⟩⟩,M.below,fun x hx hg hf hv=>M.off x hx (fun e=>hg (by rw [e];exact hgb)) hv⟩
 ·rw [List.length_append,List.map_append]
  exact M.row
 ·rcases hmem x hx with hx | rfl
  ·exact ⟨(M.off _ (hpblt x hx) (hbN x hx) (hpv x hx)).trans (L.plr x hx).cell,(L.plr x hx).out⟩
  ·exact M.plr
 ·rcases hmem x hx with hx | rfl
  ·exact ((L.play x hx).frame (fun y hy=>M.off y (hFlt x hx y hy) (fun e=>L.fG x hx y hy (by rw [e];exact hgb)) (L.fV x hx y hy)) z).upq (by omega) (by omega)
  ·exact M.play.upq (Nat.zero_le _) (Nat.zero_le _)
 ·have hcase:∀ (i:Nat) (p:Plr),(ps ++ [⟨pb,a,mb,k,Sp.empty,F⟩])[i]? = some p→(i<ps.length∧ps[i]? = some p)∨(i=ps.length∧p=⟨pb,a,mb,k,Sp.empty,F⟩):=fun i p e=>by
   by_cases hl:i<ps.length
   ·rw [List.getElem?_append_left hl] at e;exact .inl ⟨hl,e⟩
   ·rw [List.getElem?_append_right (by omega)] at e
    have hz:i - ps.length=0:=by
     have:=(List.getElem?_eq_some_iff.1 e).1;simp at this;omega
    rw [hz] at e;simp at e;exact .inr ⟨by omega,e.symm⟩
  rcases hcase i1 p1 e1 with ⟨_,a1⟩ | ⟨a1,a2⟩
  ·rcases hcase i2 p2 e2 with ⟨_,b1⟩ | ⟨_,b2⟩
   ·exact L.apart i1 i2 p1 p2 a1 b1 hne x f1 f2
   ·subst b2
    have:=hFlt p1 (List.mem_of_getElem? a1) x f1;have:=M.new.1 x f2;omega
  ·subst a2
   rcases hcase i2 p2 e2 with ⟨_,b1⟩ | ⟨b1,_⟩
   ·have:=hFlt p2 (List.mem_of_getElem? b1) x f2
    have:=M.new.1 x f1;omega
   ·omega
 ·rcases hmem x hx with hx | rfl
  ·exact L.fG x hx y hy
  ·intro hg
   have:=M.new.1 y hy;have:=hGlt y hg;omega
 ·rcases hmem x hx with hx | rfl
  ·rcases (M.at' y e).1 with h1 | h1
   ·exact L.fV x hx y hy h1
   ·have:=hFlt x hx y hy;omega
  ·exact (M.at' y e).2.1 hy
 ·rcases hmem x hx with hx | rfl
  ·rcases hmem y hy with hy | rfl
   ·exact L.fP x hx y hy hf
   ·have h8:pb<w.heap.size:=hFlt x hx _ hf
    have:=M.new.2;omega
  ·rcases hmem y hy with hy | rfl
   ·have:=M.new.1 _ hf
    have:=hpblt y hy;omega
   ·exact M.plr.out hf
 ·rcases (M.at' x hx).1 with h1 | h1
  ·exact L.gV x h1 hg
  ·have:=hGlt x hg;omega
 ·rcases hmem x hx with hx | rfl
  ·exact L.gP x hx hg
  ·have h8:pb<w.heap.size:=hGlt _ hg
   have:=M.new.2;omega
 ·rcases (M.at' x hx).1 with h1 | h1
  ·exact L.base.2.1 x h1
  ·omega
 ·rcases hmem x hx with hx | rfl
  ·exact L.base.2.2 x hx y hy
  ·have:=M.new.1 y hy;omega
theorem Yur (L:Ycj N w b v vps hs G ps q) (hN:N≤w.heap.size) (h6:ps.length<6) (M:Yjq w w' b v vps ps.length (ps.map Yhu) vps' pb a mb k F):Yck N w w' b vps G ps q:=
 ⟨⟨_,_,_,_,_,(Yo6 L hN h6 M).1⟩,(Yo6 L hN h6 M).2⟩
structure Yhv (o:OpV):Prop where
 n:Yax o.n
 t:Yax o.t
 key:o.key.size≤140737488355328
 val:o.val.size≤140737488355328
theorem Y5h (h:Ydr w a mb k P F q q) (hp:Yee w pb a mb F) (hq:q≤1999999999998) (o:OpV) (hk:2≤o.kind∧o.kind≤8) (ho:Yhv o):
 Calls prog 65 #[.pointer (some ⟨pb,0,none⟩),.agg o.cells.toArray] w fun e w'=>e=.returned (.bool true)∧Yce w w' a mb k F q:=by
 have h7:o.kind=2∨o.kind=3∨o.kind=4∨o.kind=5∨o.kind=6∨o.kind=7∨o.kind=8:=by omega
 rcases h7 with e | e | e | e | e | e | e
 ·exact Y33 h hp o e
 ·exact Y4f h hp hq o e ho.t ho.key
 ·exact Y4a h hp hq o e ho.t ho.key ho.val
 ·exact Y4b h hp hq o e ho.t ho.key ho.val
 ·exact Y37 h hp hq o e ho.t ho.key ho.val
 ·exact Y38 h hp hq o e ho.t ho.key ho.val
 ·exact Y39 h hp hq o e ho.t ho.key ho.val
structure Y5i (N:Nat) (w W0:World) (b:Nat) (vps:Value) (G:Nat→Prop) (ps:List Plr) (q g n cap:Nat) (o:OpV) (pb:Nat):Prop where
 act:2≤o.kind→o.kind≤8→Calls prog 65 #[.pointer (some ⟨pb,0,none⟩),.agg o.cells.toArray] W0 fun e w'=>e=.returned (.bool true)∧Yck N w w' b vps G ps q
 dump:Calls prog 61 #[.pointer (some ⟨b,0,none⟩),.pointer (some ⟨pb,0,none⟩)] W0 fun e w'=>e=.returned (.bool true)∧Yck N w w' b vps G ps q
 log:Calls prog 62 #[.pointer (some ⟨b,0,none⟩),.pointer (some ⟨pb,0,none⟩)] W0 fun e w'=>e=.returned (.bool true)∧Yck N w w' b vps G ps q
theorem Yjr {W0:World} (L:Ycj N w b v vps hs G ps q) (hN:N≤w.heap.size) (hb0:Below w.heap.size w W0) (hv:vps=.slice (some ⟨g,0,none⟩) n cap) (hn:n=ps.length) (hq:q≤1999999999998) (o:OpV) (ho:Yhv o) (i:Nat) (hi:i<n):
 ∃ pb,W0.cell? ⟨g,i,none⟩=some (.pointer (some ⟨pb,0,none⟩))∧Y5i N w W0 b vps G ps q g n cap o pb:=by
 have L0:=L.below hb0
 have hil:i<ps.length:=by omega
 have hget:ps[i]? = some ps[i]:=List.getElem?_eq_getElem hil
 have hpm:ps[i]∈ps:=List.getElem_mem hil
 have hz:=hb0.size
 have hN0:N≤W0.heap.size:=by omega
 have hlens:=L.lens
 have hr:=L0.row
 rw [hv,←hn] at hr
 refine ⟨ps[i].pb,Yal hr (by rw [List.getElem?_map,hget];rfl),⟨fun h1 h2=>(Y5h (L0.play _ hpm) (L0.plr _ hpm) hq o ⟨h1,h2⟩ ho).mono ?_,(Y47 (L0.play _ hpm) (L0.plr _ hpm) L0.hold (L0.fG _ hpm) (by omega)).mono ?_,(Y5b (L0.play _ hpm) (L0.plr _ hpm) L0.hold (L0.fG _ hpm) (by omega)).mono ?_⟩⟩
 ·rintro e w' ⟨h3,h4⟩
  exact ⟨h3,Yck.from hb0 (Yo5 L0 hN0 hget (Y45 L0.hold (L0.fG _ hpm) h4))⟩
 ·rintro e w' ⟨h3,h4⟩
  exact ⟨h3,Yck.from hb0 (Yo5 L0 hN0 hget h4)⟩
 ·rintro e w' ⟨h3,h4⟩
  exact ⟨h3,Yck.from hb0 (Yo5 L0 hN0 hget h4)⟩
theorem Yo7 (c:Int) (hc:Yax c) (n:Nat) (hn:0<n) (hn6:n≤1000):
 ∃ i:Nat,i<n∧∀ w:World,Calls prog 60 #[.int .i64 c,.int .i64 n] w fun e w'=>e=.returned (.int .i64 i)∧w=w':=by
 obtain ⟨c1,c2⟩:=hc
 have hnz:(n:Int)≠0:=by omega
 have hnz':((n:Int) == 0)=false:=by simpa using hnz
 by_cases h:c<0
 ·have hw1:wrap64 (c+1)=c+1:=by simp only [wrap64];omega
  have hv:-(c+1).tmod (n:Int)=(((-(c+1)).toNat % n:Nat):Int):=by
   have h1:((-(c+1)).toNat:Int) = -(c+1):=by omega
   rw [←Int.neg_tmod,←h1,Int.tmod_eq_emod_of_nonneg (by omega)];rfl
  have HV:=Yh hv;clear hv;refine ⟨(-(c+1)).toNat % n,Nat.mod_lt _ hn,fun w=>?_⟩;go_enter func60,ntmps60;go_wp2;go_ret;exact ⟨by show Ending.returned (.int .i64 (-(c+1).tmod (n:Int)))=_;rw [HV.out],rfl⟩
 ·obtain ⟨r,hr,hv⟩:∃ r:Nat,r<n∧c % (n:Int)=(r:Int):=⟨c.toNat % n,Nat.mod_lt _ hn,by
   have h1:(c.toNat:Int)=c:=by omega
   rw [←h1];rfl⟩
  have HV:=Yh hv;clear hv;refine ⟨r,hr,fun w=>?_⟩;go_enter func60,ntmps60;go_wp2;go_ret;exact ⟨by show Ending.returned (.int .i64 (c % (n:Int)))=_;rw [HV.out],rfl⟩
theorem Y5j (L:Ycj N w b v vps hs G ps q) (hN:N≤w.heap.size) (h0:0<ps.length) (hq:q≤1999999999998) (o:OpV) (ho:Yhv o) (hk:2≤o.kind∧o.kind≤8):
 Calls prog 38 #[.pointer (some ⟨b,0,none⟩),.agg o.cells.toArray] w fun e w'=>e=.returned (.bool true)∧Yck N w w' b vps G ps q:=by
 obtain ⟨n,hn⟩:∃ n,n=ps.length:=⟨_,rfl⟩
 obtain ⟨g,cap,hv⟩:=Ybn L.row h0
 rw [←hn] at hv
 have hfew:n≤6:=by have:=L.few;omega
 have hn0:0<n:=by omega
 obtain ⟨i,hi,hpk⟩:=Yo7 o.n ho.n n hn0 (by omega)
 have KP:=Yh hpk
 obtain ⟨pb,hpb⟩:∃ pb,∀ W,Below w.heap.size w W→W.cell? ⟨b,1,none⟩=some (.slice (some ⟨g,0,none⟩) n cap)∧W.cell? ⟨g,i,none⟩=some (.pointer (some ⟨pb,0,none⟩))∧Calls prog 65 #[.pointer (some ⟨pb,0,none⟩),.agg o.cells.toArray] W fun e w'=>e=.returned (.bool true)∧Yck N w w' b vps G ps q:=by
  obtain ⟨pb,h1,_⟩:=Yjr L hN (Below.refl _ _) hv hn hq o ho i hi;refine ⟨pb,fun W hb=>?_⟩;have h3:W.cell? ⟨b,1,none⟩=some vps:=Yaa (j:=1) (L.below hb).hold.blk rfl;rw [hv] at h3;obtain ⟨pb',h4,h2⟩:=Yjr L hN hb hv hn hq o ho i hi;have h5:W.cell? ⟨g,i,none⟩=some (.pointer (some ⟨pb,0,none⟩)):=(hb.cell (World.block_lt_of_cell? w _ h1)).trans h1;rw [h5] at h4;simp only [Option.some.injEq,Value.pointer.injEq,Addr.mk.injEq,and_true] at h4;subst h4;exact ⟨h3,h5,h2.act hk.1 hk.2⟩
 have HM:=Yh hpb
 have hbw:b<w.heap.size:=Yaz L.hold.blk
 clear L hv hn h0 hN hpk hpb
 obtain ⟨kd,on,om,t,key,val,keep,tear,fuse⟩:=o
 obtain ⟨hk1,hk2⟩:=hk
 simp only [OpV.cells] at hk1 hk2 HM KP ⊢
 have e1:(kd == 1)=false:=by simp;omega
 have e11:(kd == 11)=false:=by simp;omega
 have e2:¬kd<2:=by omega
 have e13:¬13<kd:=by omega
 have e9:(kd == 9)=false:=by simp;omega
 have e10:(kd == 10)=false:=by simp;omega
 have e12:(kd == 12)=false:=by simp;omega
 have e13':(kd == 13)=false:=by simp;omega
 have en:((n:Int) == 0)=false:=by simp;omega
 obtain ⟨W0,hW0⟩:∃ W0,W0=w.alloc (.cells #[.int .i64 kd,.int .i64 on,.int .i64 om,.int .i64 t,.string key,.string val,.int .u64 keep,.int .i64 tear,.int .i64 fuse] 80):=⟨_,rfl⟩
 have hb0:Below w.heap.size w W0:=by rw [hW0];exact (Below.refl _ _).alloc (Nat.le_refl _) _
 have hnew:W0.heap[w.heap.size]? = some (.cells #[.int .i64 kd,.int .i64 on,.int .i64 om,.int .i64 t,.string key,.string val,.int .u64 keep,.int .i64 tear,.int .i64 fuse] 80 (0,0)):=by rw [hW0];exact heap_alloc_new _ _
 have c0:W0.cell? ⟨w.heap.size,0,none⟩=some (.int .i64 kd):=Yaa hnew rfl
 have c1:W0.cell? ⟨w.heap.size,1,none⟩=some (.int .i64 on):=Yaa hnew rfl
 have c2:W0.cell? ⟨w.heap.size,2,none⟩=some (.int .i64 om):=Yaa hnew rfl
 have c3:W0.cell? ⟨w.heap.size,3,none⟩=some (.int .i64 t):=Yaa hnew rfl
 have c4:W0.cell? ⟨w.heap.size,4,none⟩=some (.string key):=Yaa hnew rfl
 have c5:W0.cell? ⟨w.heap.size,5,none⟩=some (.string val):=Yaa hnew rfl
 have c6:W0.cell? ⟨w.heap.size,6,none⟩=some (.int .u64 keep):=Yaa hnew rfl
 have c7:W0.cell? ⟨w.heap.size,7,none⟩=some (.int .i64 tear):=Yaa hnew rfl
 have c8:W0.cell? ⟨w.heap.size,8,none⟩=some (.int .i64 fuse):=Yaa hnew rfl
 obtain ⟨cb,cg,_⟩:=HM.out W0 hb0
 have KA:=Yh (HM.out W0.drew hb0.drew).2.2
 clear hnew hb0 HM
 have hi':(i:Int)<(n:Int):=by omega
 go_enter func38,ntmps38
 go_upto_region 1 with fail
 rw [←hW0]
 clear hW0
 go_upto_region 7 with fail
 go_region_held3 (fun w'=>w'.cell? ⟨b,1,none⟩=some (.slice (some ⟨g,0,none⟩) n cap)∧w'.cell? ⟨w.heap.size,1,none⟩=some (.int .i64 on)∧w'.cell? ⟨g,i,none⟩=some (.pointer (some ⟨pb,0,none⟩)))
  (go_keep)
  (first
   | (go_at_call 60;go_must (
    refine (KP.out _).mono ?_;rintro e w1 ⟨rfl,rfl⟩)))
 all_goals
  go_wp2_with (first
   | (go_at_call 65;go_must (
    refine KA.out.mono ?_;rintro e w3 ⟨rfl,hd⟩;have HD:=Yh hd;clear hd)))
  go_ret;exact ⟨rfl,HD.out⟩
theorem Y5k (L:Ycj N w b v vps hs G ps q) (hN:N≤w.heap.size) (h0:0<ps.length) (hq:q≤1999999999998) (o:OpV) (ho:Yhv o) (hk:o.kind=9):
 Calls prog 38 #[.pointer (some ⟨b,0,none⟩),.agg o.cells.toArray] w fun e w'=>e=.returned (.bool true)∧Yck N w w' b vps G ps q:=by
 obtain ⟨n,hn⟩:∃ n,n=ps.length:=⟨_,rfl⟩
 obtain ⟨g,cap,hv⟩:=Ybn L.row h0
 rw [←hn] at hv
 have hfew:n≤6:=by have:=L.few;omega
 have hn0:0<n:=by omega
 obtain ⟨i,hi,hpk⟩:=Yo7 o.n ho.n n hn0 (by omega)
 have KP:=Yh hpk
 obtain ⟨pb,hpb⟩:∃ pb,∀ W,Below w.heap.size w W→W.cell? ⟨b,1,none⟩=some (.slice (some ⟨g,0,none⟩) n cap)∧W.cell? ⟨g,i,none⟩=some (.pointer (some ⟨pb,0,none⟩))∧Calls prog 61 #[.pointer (some ⟨b,0,none⟩),.pointer (some ⟨pb,0,none⟩)] W fun e w'=>e=.returned (.bool true)∧Yck N w w' b vps G ps q:=by
  obtain ⟨pb,h1,_⟩:=Yjr L hN (Below.refl _ _) hv hn hq o ho i hi;refine ⟨pb,fun W hb=>?_⟩;have h3:W.cell? ⟨b,1,none⟩=some vps:=Yaa (j:=1) (L.below hb).hold.blk rfl;rw [hv] at h3;obtain ⟨pb',h4,h2⟩:=Yjr L hN hb hv hn hq o ho i hi;have h5:W.cell? ⟨g,i,none⟩=some (.pointer (some ⟨pb,0,none⟩)):=(hb.cell (World.block_lt_of_cell? w _ h1)).trans h1;rw [h5] at h4;simp only [Option.some.injEq,Value.pointer.injEq,Addr.mk.injEq,and_true] at h4;subst h4;exact ⟨h3,h5,h2.dump⟩
 have HM:=Yh hpb
 have hbw:b<w.heap.size:=Yaz L.hold.blk
 clear L hv hn h0 hN hpk hpb
 obtain ⟨kd,on,om,t,key,val,keep,tear,fuse⟩:=o
 simp only at hk
 subst hk
 simp only [OpV.cells] at HM KP ⊢
 have en:((n:Int) == 0)=false:=by simp;omega
 obtain ⟨W0,hW0⟩:∃ W0,W0=w.alloc (.cells #[.int .i64 9,.int .i64 on,.int .i64 om,.int .i64 t,.string key,.string val,.int .u64 keep,.int .i64 tear,.int .i64 fuse] 80):=⟨_,rfl⟩
 have hb0:Below w.heap.size w W0:=by rw [hW0];exact (Below.refl _ _).alloc (Nat.le_refl _) _
 have hnew:W0.heap[w.heap.size]? = some (.cells #[.int .i64 9,.int .i64 on,.int .i64 om,.int .i64 t,.string key,.string val,.int .u64 keep,.int .i64 tear,.int .i64 fuse] 80 (0,0)):=by rw [hW0];exact heap_alloc_new _ _
 have c0:W0.cell? ⟨w.heap.size,0,none⟩=some (.int .i64 9):=Yaa hnew rfl
 have c1:W0.cell? ⟨w.heap.size,1,none⟩=some (.int .i64 on):=Yaa hnew rfl
 obtain ⟨cb,cg,_⟩:=HM.out W0 hb0
 have KA:=Yh (HM.out W0.drew hb0.drew).2.2
 clear hnew hb0 HM
 have hi':(i:Int)<(n:Int):=by omega
 go_enter func38,ntmps38
 go_upto_region 1 with fail
 rw [←hW0]
 clear hW0
 go_upto_region 7 with fail
 go_region_held3 (fun w'=>w'.cell? ⟨b,1,none⟩=some (.slice (some ⟨g,0,none⟩) n cap)∧w'.cell? ⟨w.heap.size,1,none⟩=some (.int .i64 on)∧w'.cell? ⟨g,i,none⟩=some (.pointer (some ⟨pb,0,none⟩)))
  (go_keep)
  (first
   | (go_at_call 60;go_must (
    refine (KP.out _).mono ?_;rintro e w1 ⟨rfl,rfl⟩)))
 all_goals
  go_wp2_with (first
   | (go_at_call 61;go_must (
    refine KA.out.mono ?_;rintro e w3 ⟨rfl,hd⟩;have HD:=Yh hd;clear hd)))
  go_ret;exact ⟨rfl,HD.out⟩
theorem Y5l (L:Ycj N w b v vps hs G ps q) (hN:N≤w.heap.size) (h0:0<ps.length) (hq:q≤1999999999998) (o:OpV) (ho:Yhv o) (hk:o.kind=10):
 Calls prog 38 #[.pointer (some ⟨b,0,none⟩),.agg o.cells.toArray] w fun e w'=>e=.returned (.bool true)∧Yck N w w' b vps G ps q:=by
 obtain ⟨n,hn⟩:∃ n,n=ps.length:=⟨_,rfl⟩
 obtain ⟨g,cap,hv⟩:=Ybn L.row h0
 rw [←hn] at hv
 have hfew:n≤6:=by have:=L.few;omega
 have hn0:0<n:=by omega
 obtain ⟨i,hi,hpk⟩:=Yo7 o.n ho.n n hn0 (by omega)
 have KP:=Yh hpk
 obtain ⟨pb,hpb⟩:∃ pb,∀ W,Below w.heap.size w W→W.cell? ⟨b,1,none⟩=some (.slice (some ⟨g,0,none⟩) n cap)∧W.cell? ⟨g,i,none⟩=some (.pointer (some ⟨pb,0,none⟩))∧Calls prog 62 #[.pointer (some ⟨b,0,none⟩),.pointer (some ⟨pb,0,none⟩)] W fun e w'=>e=.returned (.bool true)∧Yck N w w' b vps G ps q:=by
  obtain ⟨pb,h1,_⟩:=Yjr L hN (Below.refl _ _) hv hn hq o ho i hi;refine ⟨pb,fun W hb=>?_⟩;have h3:W.cell? ⟨b,1,none⟩=some vps:=Yaa (j:=1) (L.below hb).hold.blk rfl;rw [hv] at h3;obtain ⟨pb',h4,h2⟩:=Yjr L hN hb hv hn hq o ho i hi;have h5:W.cell? ⟨g,i,none⟩=some (.pointer (some ⟨pb,0,none⟩)):=(hb.cell (World.block_lt_of_cell? w _ h1)).trans h1;rw [h5] at h4;simp only [Option.some.injEq,Value.pointer.injEq,Addr.mk.injEq,and_true] at h4;subst h4;exact ⟨h3,h5,h2.log⟩
 have HM:=Yh hpb
 have hbw:b<w.heap.size:=Yaz L.hold.blk
 clear L hv hn h0 hN hpk hpb
 obtain ⟨kd,on,om,t,key,val,keep,tear,fuse⟩:=o
 simp only at hk
 subst hk
 simp only [OpV.cells] at HM KP ⊢
 have en:((n:Int) == 0)=false:=by simp;omega
 obtain ⟨W0,hW0⟩:∃ W0,W0=w.alloc (.cells #[.int .i64 10,.int .i64 on,.int .i64 om,.int .i64 t,.string key,.string val,.int .u64 keep,.int .i64 tear,.int .i64 fuse] 80):=⟨_,rfl⟩
 have hb0:Below w.heap.size w W0:=by rw [hW0];exact (Below.refl _ _).alloc (Nat.le_refl _) _
 have hnew:W0.heap[w.heap.size]? = some (.cells #[.int .i64 10,.int .i64 on,.int .i64 om,.int .i64 t,.string key,.string val,.int .u64 keep,.int .i64 tear,.int .i64 fuse] 80 (0,0)):=by rw [hW0];exact heap_alloc_new _ _
 have c0:W0.cell? ⟨w.heap.size,0,none⟩=some (.int .i64 10):=Yaa hnew rfl
 have c1:W0.cell? ⟨w.heap.size,1,none⟩=some (.int .i64 on):=Yaa hnew rfl
 obtain ⟨cb,cg,_⟩:=HM.out W0 hb0
 have KA:=Yh (HM.out W0.drew hb0.drew).2.2
 clear hnew hb0 HM
 have hi':(i:Int)<(n:Int):=by omega
 go_enter func38,ntmps38
 go_upto_region 1 with fail
 rw [←hW0]
 clear hW0
 go_upto_region 7 with fail
 go_region_held3 (fun w'=>w'.cell? ⟨b,1,none⟩=some (.slice (some ⟨g,0,none⟩) n cap)∧w'.cell? ⟨w.heap.size,1,none⟩=some (.int .i64 on)∧w'.cell? ⟨g,i,none⟩=some (.pointer (some ⟨pb,0,none⟩)))
  (go_keep)
  (first
   | (go_at_call 60;go_must (
    refine (KP.out _).mono ?_;rintro e w1 ⟨rfl,rfl⟩)))
 all_goals
  go_wp2_with (first
   | (go_at_call 62;go_must (
    refine KA.out.mono ?_;rintro e w3 ⟨rfl,hd⟩;have HD:=Yh hd;clear hd)))
  go_ret;exact ⟨rfl,HD.out⟩
end Go.Proofs.YtihbngfbcnojcaaGreat
