import Derived.Test.YtihbngfbcnojcaaGreatActC13
import Derived.Shelf.SlIter.Nil
import Derived.Shelf.SortM.Plain
import Derived.Shelf.SortM.SortNone
set_option maxRecDepth 100000
set_option maxHeartbeats 8000000
namespace Go.Proofs.YtihbngfbcnojcaaGreat
open Go.RowKit Go.Maps Go.Sort Go.Shelf Tryz
def Yoa:Go.Shelf.Ren:=⟨fun | 7=>110 | 10=>156 | n=>n,fun | 23=>138 | 26=>9 | 3=>38 | 28=>176 | 0=>0 | 27=>175 | 33=>248 | 4=>4 | n=>n,fun | n=>n⟩
theorem Yob:Go.Proofs.SlLaysZ.n7 prog Yoa where
 mixed:=by kernel_rfl
 f7:=⟨Tryz.f110.name,by kernel_rfl,func110.trans (congrArg some (by kernel_rfl))⟩
 f10:=⟨Tryz.f156.name,by kernel_rfl,func156.trans (congrArg some (by kernel_rfl))⟩
 t0:=underlying0
 a0:=Tryz.isAgg0
 z0:=Tryz.sizeOf0
 v0:=Tryz.zeroValue0
 t4:=underlying4
 a4:=Tryz.isAgg4
 z4:=Tryz.sizeOf4
 v4:=Tryz.zeroValue4
 t23:=underlying138
 a23:=Tryz.isAgg138
 z23:=Tryz.sizeOf138
 v23:=Tryz.zeroValue138
 t26:=underlying9
 a26:=Tryz.isAgg9
 z26:=Tryz.sizeOf9
 v26:=Tryz.zeroValue9
 t27:=underlying175
 a27:=Tryz.isAgg175
 z27:=Tryz.sizeOf175
 v27:=Tryz.zeroValue175
 t28:=underlying176
 a28:=Tryz.isAgg176
 z28:=Tryz.sizeOf176
 v28:=Tryz.zeroValue176
 t33:=underlying248
 a33:=Tryz.isAgg248
 z33:=Tryz.sizeOf248
 v33:=Tryz.zeroValue248
def Ysv:Go.Shelf.Ren:=⟨fun | 6=>109 | 8=>154 | 9=>155 | 11=>203 | 13=>205 | 12=>204 | 23=>232 | 24=>233 | 14=>223 | 15=>224 | 16=>225 | 17=>226 | 18=>227 | 19=>228 | 20=>229 | 21=>230 | 22=>231 | 25=>245 | 26=>246 | 27=>247 | 28=>248 | 29=>249 | 30=>234 | 31=>255 | n=>n,fun | 26=>9 | 28=>176 | 24=>173 | 0=>0 | 3=>3 | 37=>213 | 48=>124 | 50=>53 | 4=>4 | 40=>316 | 39=>315 | 45=>249 | 5=>5 | 9=>9 | 51=>330 | 55=>333 | 57=>338 | 58=>339 | 33=>248 | n=>n,fun | n=>n⟩
theorem Ysw:Go.Proofs.SlLaysZ.n6 prog Ysv where
 mixed:=by kernel_rfl
 f6:=⟨Tryz.f109.name,by kernel_rfl,func109.trans (congrArg some (by kernel_rfl))⟩
 f8:=⟨Tryz.f154.name,by kernel_rfl,func154.trans (congrArg some (by kernel_rfl))⟩
 f11:=⟨Tryz.f203.name,by kernel_rfl,func203.trans (congrArg some (by kernel_rfl))⟩
 t0:=underlying0
 a0:=Tryz.isAgg0
 z0:=Tryz.sizeOf0
 v0:=Tryz.zeroValue0
 t24:=underlying173
 a24:=Tryz.isAgg173
 z24:=Tryz.sizeOf173
 v24:=Tryz.zeroValue173
 t26:=underlying9
 a26:=Tryz.isAgg9
 z26:=Tryz.sizeOf9
 v26:=Tryz.zeroValue9
 t28:=underlying176
 a28:=Tryz.isAgg176
 z28:=Tryz.sizeOf176
 v28:=Tryz.zeroValue176
 i26:=by kernel_rfl
def Y0u:Go.Shelf.Ren:=⟨fun | 6=>155 | 8=>205 | 9=>204 | 19=>232 | 20=>233 | 21=>223 | 22=>224 | 23=>225 | 24=>226 | 25=>227 | 26=>228 | 27=>229 | 28=>230 | 29=>231 | 36=>245 | 31=>246 | 32=>247 | 37=>248 | 38=>249 | 39=>234 | 41=>255 | n=>n,fun | 27=>173 | 29=>9 | 3=>3 | 32=>213 | 26=>173 | 0=>0 | 44=>124 | 46=>53 | 4=>4 | 36=>316 | 35=>315 | 41=>249 | 5=>5 | 9=>9 | 53=>330 | 57=>333 | 63=>338 | 64=>339 | n=>n,fun | n=>n⟩
theorem Ysx:Go.Proofs.SlLaysM.n6 prog Y0u where
 mixed:=by kernel_rfl
 f6:=⟨Tryz.f155.name,by kernel_rfl,func155.trans (congrArg some (by kernel_rfl))⟩
 f8:=func205.trans (congrArg some (by kernel_rfl))
 f9:=⟨Tryz.f204.name,by kernel_rfl,func204.trans (congrArg some (by kernel_rfl))⟩
 f19:=func232.trans (congrArg some (by kernel_rfl))
 f20:=func233.trans (congrArg some (by kernel_rfl))
 f21:=⟨Tryz.f223.name,by kernel_rfl,func223.trans (congrArg some (by kernel_rfl))⟩
 f22:=⟨Tryz.f224.name,by kernel_rfl,func224.trans (congrArg some (by kernel_rfl))⟩
 f23:=⟨Tryz.f225.name,by kernel_rfl,func225.trans (congrArg some (by kernel_rfl))⟩
 f24:=⟨Tryz.f226.name,by kernel_rfl,func226.trans (congrArg some (by kernel_rfl))⟩
 f25:=⟨Tryz.f227.name,by kernel_rfl,func227.trans (congrArg some (by kernel_rfl))⟩
 f26:=⟨Tryz.f228.name,by kernel_rfl,func228.trans (congrArg some (by kernel_rfl))⟩
 f27:=⟨Tryz.f229.name,by kernel_rfl,func229.trans (congrArg some (by kernel_rfl))⟩
 f28:=⟨Tryz.f230.name,by kernel_rfl,func230.trans (congrArg some (by kernel_rfl))⟩
 f29:=⟨Tryz.f231.name,by kernel_rfl,func231.trans (congrArg some (by kernel_rfl))⟩
 f31:=func246.trans (congrArg some (by kernel_rfl))
 f32:=func247.trans (congrArg some (by kernel_rfl))
 f36:=⟨Tryz.f245.name,by kernel_rfl,func245.trans (congrArg some (by kernel_rfl))⟩
 f37:=⟨Tryz.f248.name,by kernel_rfl,func248.trans (congrArg some (by kernel_rfl))⟩
 f38:=⟨Tryz.f249.name,by kernel_rfl,func249.trans (congrArg some (by kernel_rfl))⟩
 f39:=⟨Tryz.f234.name,by kernel_rfl,func234.trans (congrArg some (by kernel_rfl))⟩
 f41:=⟨Tryz.f255.name,by kernel_rfl,func255.trans (congrArg some (by kernel_rfl))⟩
 t0:=underlying0
 a0:=Tryz.isAgg0
 z0:=Tryz.sizeOf0
 v0:=Tryz.zeroValue0
 t3:=underlying3
 a3:=Tryz.isAgg3
 z3:=Tryz.sizeOf3
 v3:=Tryz.zeroValue3
 t4:=underlying4
 a4:=Tryz.isAgg4
 z4:=Tryz.sizeOf4
 v4:=Tryz.zeroValue4
 t5:=underlying5
 a5:=Tryz.isAgg5
 z5:=Tryz.sizeOf5
 v5:=Tryz.zeroValue5
 t9:=underlying9
 a9:=Tryz.isAgg9
 z9:=Tryz.sizeOf9
 v9:=Tryz.zeroValue9
 t26:=underlying173
 a26:=Tryz.isAgg173
 z26:=Tryz.sizeOf173
 v26:=Tryz.zeroValue173
 t27:=underlying173
 a27:=Tryz.isAgg173
 z27:=Tryz.sizeOf173
 v27:=Tryz.zeroValue173
 t29:=underlying9
 a29:=Tryz.isAgg9
 z29:=Tryz.sizeOf9
 v29:=Tryz.zeroValue9
 t32:=underlying213
 a32:=Tryz.isAgg213
 z32:=Tryz.sizeOf213
 v32:=Tryz.zeroValue213
 t35:=underlying315
 a35:=Tryz.isAgg315
 z35:=Tryz.sizeOf315
 v35:=Tryz.zeroValue315
 t36:=underlying316
 a36:=Tryz.isAgg316
 z36:=Tryz.sizeOf316
 v36:=Tryz.zeroValue316
 t41:=underlying249
 a41:=Tryz.isAgg249
 z41:=Tryz.sizeOf249
 v41:=Tryz.zeroValue249
 t44:=underlying124
 a44:=Tryz.isAgg124
 z44:=Tryz.sizeOf124
 v44:=Tryz.zeroValue124
 t46:=underlying53
 a46:=Tryz.isAgg53
 z46:=Tryz.sizeOf53
 v46:=Tryz.zeroValue53
 t53:=underlying330
 a53:=Tryz.isAgg330
 z53:=Tryz.sizeOf330
 v53:=Tryz.zeroValue330
 t57:=underlying333
 a57:=Tryz.isAgg333
 z57:=Tryz.sizeOf333
 v57:=Tryz.zeroValue333
 t63:=underlying338
 a63:=Tryz.isAgg338
 z63:=Tryz.sizeOf338
 v63:=Tryz.zeroValue338
 t64:=underlying339
 a64:=Tryz.isAgg339
 z64:=Tryz.sizeOf339
 v64:=Tryz.zeroValue339
theorem Ysy (m:Nat):AnyZ.SortsIn prog Ysv Fence.wide m:=
 ⟨fun blk off cap ss W hH hblk hsz=>callsIn_wide.2 (AnyM.slices_Sort_string Ysx blk off cap ss W hH hblk hsz),
  fun p cap W=>callsIn_wide.2 (AnyM.slices_Sort_string_none Ysx p cap W)⟩
theorem Yoc (mb:Option Nat) (W:World):Calls prog 110 #[.map mb] W fun e w'=>e=.returned (.func (.func 156) #[] #[.pointer (some ⟨W.heap.size,0,none⟩)])∧w'=W.alloc (.cells #[.map mb] 138):=
 (callsIn_wide (n:=5)).1 (AnyZ.keys_in Yob Fence.wide 5 trivial rfl mb W)
theorem Y0v {H:Type} (b nn:Nat) (D0:DataW H) (R:Value→Option (DataW H×List MemPlace)) (w:World) (hown:w.ownsMap prog 9 R b nn D0) (hmax:Maps.size D0≤maxLen) (hbytes:Maps.size D0*16≤140737488355328):
 Calls prog 109 #[.func (.func 156) #[] #[.pointer (some ⟨w.heap.size,0,none⟩)]] (w.alloc (.cells #[.map (some b)] 138)) fun e w'=>∃ (v:Value) (ss:List (List UInt8)),e=.returned v∧ss.Perm (strKeys D0) ∧
  w'.ownsRow (w.alloc (.cells #[.map (some b)] 138)).heap.size 9 1 v ss.length ((ss.mergeSort (fun x y=>decide (x≤y))).map encStr)∧(v=.slice none 0 0↔ss=[])∧Below (w.alloc (.cells #[.map (some b)] 138)).heap.size (w.alloc (.cells #[.map (some b)] 138)) w':=by
 have hbl:=hown.lt
 have hseq:SeqGives Fence.wide 2 prog 156 #[.pointer (some ⟨w.heap.size,0,none⟩)] encStr (fun ss=>ss.Perm (strKeys D0)) (Maps.size D0) (w.alloc (.cells #[.map (some b)] 138)):=
  AnyZ.keys_gives (ρ:=Yoa) { Yob with } Fence.wide _ trivial rfl (by omega) w.heap.size b nn D0 _ (by simp) (by simp) (by
   obtain ⟨es,clock,hb,Ft,hs,hD⟩:=hown;exact ⟨es,clock,(Below.heap_alloc _ _ b hbl).trans hb,Ft,hs,hD⟩)
 exact (callsIn_wide (n:=5)).1 (AnyZ.sorted_in Ysw Fence.wide 5 trivial trivial trivial trivial rfl (by omega) (Ysy _) (enters_of func155 (by kernel_rfl) rfl) 156 #[.pointer (some ⟨w.heap.size,0,none⟩)] trivial (enters_of func156 (by kernel_rfl) rfl) _ _ hmax hbytes _ hseq)
theorem Y0w (w:World):
 Calls prog 109 #[.func (.func 156) #[] #[.pointer (some ⟨w.heap.size,0,none⟩)]] (w.alloc (.cells #[.map none] 138)) fun e w'=>e=.returned (.slice none 0 0)∧Below (w.alloc (.cells #[.map none] 138)).heap.size (w.alloc (.cells #[.map none] 138)) w':=by
 have hseq:SeqGives Fence.wide 2 prog 156 #[.pointer (some ⟨w.heap.size,0,none⟩)] encStr (fun ss:List (List UInt8)=>ss=[]) 0 (w.alloc (.cells #[.map none] 138)):=
  AnyZ.keys_gives_nil (ρ:=Yoa) { Yob with } Fence.wide _ trivial rfl w.heap.size _ (by simp) (by simp)
 refine ((callsIn_wide (n:=5)).1 (AnyZ.sorted_in Ysw Fence.wide 5 trivial trivial trivial trivial rfl (by omega) (Ysy _) (enters_of func155 (by kernel_rfl) rfl) 156 #[.pointer (some ⟨w.heap.size,0,none⟩)] trivial (enters_of func156 (by kernel_rfl) rfl) _ 0 (Nat.zero_le _) (by omega) _ hseq)).mono ?_
 rintro e w' ⟨v,ss,rfl,h1,h2,h3,h4⟩
 exact ⟨by rw [h3.2 h1],h4⟩
end Go.Proofs.YtihbngfbcnojcaaGreat
namespace Go.Proofs.YtihbngfbcnojcaaGreat
open Go.RowKit Tryz
variable {M:DataW Value} {t:Int} {ks:List ByteArray} {es:List Yac} {b db j kb n q:Nat} {s s':Sv} {x x':TxE} {W W1 w w1 w2:World} {m md:Ybh}
def Ygx (l:List UInt8):ByteArray:=⟨l.toArray⟩
theorem Y0x (k:ByteArray):Ygx k.data.toList=k:=by cases k;simp [Ygx]
theorem Y0y (l:List UInt8):(Ygx l).data.toList=l:=by simp [Ygx]
theorem Ysz (l:List UInt8):(Ygx l).toList=l:=by rw [ByteArray.toList_eq];simp [Ygx]
structure Yfq (M:DataW Value) (ks:List ByteArray):Prop where
 rise:ks.Pairwise blt
 mem:∀ k,k∈ks↔Maps.has M (lit k)=true
 len:ks.length=Maps.size M
theorem Y0z (hM:Yap w 9 b n M) {ss:List (List UInt8)} (hp:ss.Perm (Go.strKeys M)):
 ∃ ks:List ByteArray,Yfq M ks∧(ss.mergeSort (fun x y=>decide (x≤y))).map Go.Proofs.encStr=ks.map Value.string:=by
 obtain ⟨es,hD,hpw,_⟩:=World.ownsMap.entries hM (Maps.string_keyed underlying9)
 obtain ⟨es',hD',hko⟩:=World.ownsMap.keysOf hM
 obtain rfl:es=es':=by rw [hD] at hD';simpa using hD'
 subst hD
 have hstr:∀ p∈es,∃ x,p.1=.string x:=fun p hp=>by
  obtain ⟨v,hv⟩:=hko p hp;obtain ⟨x,_,hx,_⟩:=Maps.keyOf_str underlying9 hv;exact ⟨x,hx⟩
 have hnd:(Go.strKeys (.map es)).Nodup:=by
  show (es.map fun p=>Go.strOf p.1).Nodup;refine List.pairwise_map.2 (hpw.imp_of_mem fun {p q} hp' hq' hne e=>hne ?_);obtain ⟨a,ha⟩:=hstr p hp';obtain ⟨b,hb⟩:=hstr q hq';rw [ha,hb] at e ⊢;exact congrArg _ e
 have hmem:∀ x,x∈Go.strKeys (.map es)↔Maps.has (.map es) (.string x)=true:=fun x=>by
  rw [Maps.has_eq,List.any_eq_true];show x∈es.map (fun p=>Go.strOf p.1)↔_;rw [List.mem_map];constructor
  ·rintro ⟨p,hp',rfl⟩
   obtain ⟨a,ha⟩:=hstr p hp';exact ⟨p,hp',by rw [ha];simp [Lit.sameKey,Go.strOf]⟩
  ·rintro ⟨p,hp',hs⟩
   obtain ⟨a,ha⟩:=hstr p hp';rw [ha] at hs;exact ⟨p,hp',by rw [ha];simpa [Lit.sameKey,Go.strOf] using hs⟩
 have hlen:(Go.strKeys (.map es)).length=es.length:=by
  show (es.map fun p=>Go.strOf p.1).length=_;simp
 have hms:=(List.mergeSort_perm ss (fun x y=>decide (x≤y))).trans hp
 have hpws:(ss.mergeSort (fun x y=>decide (x≤y))).Pairwise (fun a b=>decide (a≤b)=true):=List.pairwise_mergeSort (fun a b c h1 h2=>by simp only [decide_eq_true_eq] at *;exact List.le_trans h1 h2) (fun a b=>by simp only [Bool.or_eq_true,decide_eq_true_eq];exact List.le_total a b) ss
 generalize ss.mergeSort (fun x y=>decide (x≤y))=st at hms hpws ⊢
 have hnd2:st.Nodup:=hms.nodup_iff.2 hnd
 refine ⟨st.map Ygx,⟨?_,fun k=>?_,?_⟩,?_⟩
 ·rw [List.pairwise_map]
  refine (hpws.and hnd2).imp (fun {a b} h=>?_);show (Ygx a).toList<(Ygx b).toList;rw [Ysz,Ysz];have h1:a≤b:=by simpa using h.1
  rcases Classical.em (a<b) with h2 | h2
  ·exact h2
  ·exact absurd (List.le_antisymm h1 (List.not_lt.1 h2)) h.2
 ·rw [List.mem_map]
  constructor
  ·rintro ⟨x,hx,rfl⟩
   have:=(hmem x).1 (hms.mem_iff.1 hx);simpa [lit,Y0y] using this
  ·intro h
   exact ⟨k.data.toList,hms.mem_iff.2 ((hmem _).2 h),Y0x k⟩
 ·rw [List.length_map,hms.length_eq,hlen];rfl
 ·rw [List.map_map];rfl
theorem Ys0 (hM:Yap w 9 b n M) (hn:n≤100000):
 Calls prog 109 #[.func (.func 156) #[] #[.pointer (some ⟨w.heap.size,0,none⟩)]] (w.alloc (.cells #[.map (some b)] 138)) fun e w'=>∃ v ks,e=.returned v∧Yfq M ks∧w'.ownsRow w.heap.size 9 1 v ks.length (ks.map Value.string)∧Below w.heap.size w w':=by
 have hsz:Maps.size M≤n:=World.ownsMap.size_le hM
 refine (Y0v b n M Yb0 w hM (by unfold maxLen;omega) (by omega)).mono ?_
 rintro e w' ⟨v,ss,rfl,h1,h2,_,h3⟩
 obtain ⟨ks,k1,k2⟩:=Y0z hM h1
 have hl:ks.length=ss.length:=by
  have:=congrArg List.length k2;simp at this;exact this.symm
 rw [k2,←hl] at h2
 exact ⟨v,ks,rfl,k1,Yfg h2 (by simp),((Below.refl _ w).alloc (Nat.le_refl _) _).trans (h3.mono (by simp))⟩
def Yat (M:DataW Value) (key:ByteArray):Bool×ByteArray:=(Yc4 M key).getD (false,ByteArray.empty)
theorem Ys1 (hM:Yap w 9 b n M) (hc:Yd0 M) (key:ByteArray) (hks:key.size≤1000):
 (Instr.lookup 138 (.map (some b)) (.string key) false).run prog w=.ok (.agg #[.bool (Yat M key).1,.string (Yat M key).2]) w:=by
 obtain ⟨mv,hr,hv⟩:=hM.look (Maps.string_keyed underlying9) underlying138 (z:=.agg #[.bool false,.string ByteArray.empty]) (Tryz.zeroValue38 _) (Yfk key hks)
 rcases hc key with h1 | ⟨is,val,_,_,h1⟩
 ·rw [h1] at hv
  simp only [DataW.held.injEq] at hv;subst hv;have:Yat M key=(false,ByteArray.empty):=by unfold Yat Yc4;rw [h1];rfl
  rw [this];exact hr
 ·rw [h1] at hv
  simp only [DataW.held.injEq] at hv;subst hv;have:Yat M key=(is,val):=by unfold Yat Yc4;rw [h1];rfl
  rw [this];exact hr
def Ycz (M:DataW Value) (ks:List ByteArray):Yaf:=ks.filterMap fun k=>if (Yat M k).1 then some (k,(Yat M k).2) else none
theorem Y00 (M:DataW Value) (ks:List ByteArray) (k:ByteArray):Ycz M (ks ++ [k])=if (Yat M k).1 then Ycz M ks ++ [(k,(Yat M k).2)] else Ycz M ks:=by
 unfold Ycz;rw [List.filterMap_append]
 cases h:(Yat M k).1 <;> simp [h]
theorem Y01 (M:DataW Value) (ks:List ByteArray):(Ycz M ks).length≤ks.length:=List.length_filterMap_le _ _
theorem Ys2 {p:ByteArray×ByteArray} (h:p∈Ycz M ks):p.1∈ks∧Yat M p.1=(true,p.2):=by
 obtain ⟨k,hk,he⟩:=List.mem_filterMap.1 h;by_cases hc:(Yat M k).1=true
 ·rw [if_pos hc] at he
  simp only [Option.some.injEq] at he;subst he;exact ⟨hk,Prod.ext hc rfl⟩
 ·rw [if_neg hc] at he;cases he
theorem Yl1 {M:DataW Value}:∀ {ks:List ByteArray},ks.Pairwise blt→(Ycz M ks).Pairwise (fun a b=>blt a.1 b.1)
 | [],_=>List.Pairwise.nil
 | k :: r,h=>by
  obtain ⟨h1,h2⟩:=List.pairwise_cons.1 h;have ih:=Yl1 (M:=M) h2;unfold Ycz;rw [List.filterMap_cons];by_cases hc:(Yat M k).1=true
  ·rw [if_pos hc]
   exact List.pairwise_cons.2 ⟨fun p hp=>h1 _ (Ys2 (M:=M) hp).1,ih⟩
  ·rw [if_neg hc];exact ih
theorem Ys3 (h:Yfq M ks) (key:ByteArray):Yag (Ycz M ks) key=if (Yat M key).1 then (true,(Yat M key).2) else (false,ByteArray.empty):=by
 by_cases hc:(Yat M key).1=true
 ·rw [if_pos hc]
  have hk:key∈ks:=by
   refine (h.mem key).2 ?_
   cases hb:Maps.has M (lit key)
   ·have:Yat M key=(false,ByteArray.empty):=by unfold Yat Yc4;rw [Maps.atKey_of_not_has hb];rfl
    rw [this] at hc;cases hc
   ·rfl
  have hm:(key,(Yat M key).2)∈Ycz M ks:=List.mem_filterMap.2 ⟨key,hk,by rw [if_pos hc]⟩;obtain ⟨A,B,e⟩:=List.append_of_mem hm;have hr:=Yl1 (M:=M) h.rise;rw [e] at hr ⊢;have hA:∀ p∈A,p.1≠key:=fun p hp=>Yej ((List.pairwise_append.1 hr).2.2 p hp (key,(Yat M key).2) (by simp))
  rw [Ynv hA,Yag,if_pos rfl]
 ·rw [if_neg hc]
  exact Ynw fun p hp e=>by
   have:=(Ys2 hp).2;rw [e] at this;rw [this] at hc;exact hc rfl
theorem Ys4 (hM:Yap w 9 b n M) (hc:Yd0 M) (hn:n≤100000):
 Calls prog 78 #[.map (some b)] w fun e w'=>∃ v ks,e=.returned v∧Yfq M ks∧w'.ownsRow w.heap.size 43 2 v (Ycz M ks).length (Yad (Ycz M ks))∧Below w.heap.size w w':=by
 have KK:Hid (Calls prog 110 #[.map (some b)] w fun e w'=>e=.returned (.func (.func 156) #[] #[.pointer (some ⟨w.heap.size,0,none⟩)])∧w'=w.alloc (.cells #[.map (some b)] 138)):=Yoc _ w
 have KS:=Yh (Ys0 hM hn)
 have HM:Hid (Yap w 9 b n M∧Maps.size M≤100000):=⟨hM,Nat.le_trans (World.ownsMap.size_le hM) hn⟩
 have HC:=Yh hc
 clear hM hc
 go_enter func78,ntmps78
 go_wp2_with (first
  | (go_at_call 110;go_must (
   refine KK.out.mono ?_;rintro e w0 ⟨rfl,rfl⟩))
  | (go_at_call 109;go_must (
   refine KS.out.mono ?_;rintro e w1 ⟨v,ks,rfl,hks,hrow,hb1⟩;obtain ⟨p,cap,rfl,hmax⟩:=Ya6 hrow;have HKS:=Yh hks;have HROW:=Yh hrow;have HB1:=Yh hb1;have hkl:ks.length≤100000:=by rw [hks.len];exact HM.out.2
   clear hks hrow hb1 hmax)))
 have HMW:Hid (Yap w1 9 b n M):=HM.out.1.below HB1.out
 go_loopw [3,11] (fun u i wr=>∃ k:Nat,k≤ks.length∧i=.int .i64 k∧wr.ownsRow w1.heap.size 43 2 u (Ycz M (ks.take k)).length (Yad (Ycz M (ks.take k)))∧Below w1.heap.size w1 wr) (fun _ i _=>ks.length - (intOf i).toNat)
 case atStart=>exact ⟨0,by omega,rfl,World.ownsRow_nil _ _ _ _,Below.refl _ _⟩
 case round=>
  obtain ⟨k,hk,rfl,hout,hbr⟩:=hrel;have HBR:=Yh hbr;have hsz:=hbr.size;by_cases hlt:k<ks.length
  ·have hlt':(k:Int)<(ks.length:Int):=by omega
   have hownr:=Ybe HROW.out hbr (fun g hg=>(HROW.out.lt g hg).2);obtain ⟨g,cap',he⟩:=Ybn hownr (by omega);simp only [Value.slice.injEq] at he;obtain ⟨rfl,-,rfl⟩:=he;have c0:wr.cell? ⟨g,k,none⟩=some (.string ks[k]):=Yal hownr (by simp [hlt]);have hksz:ks[k].size≤8:=by
    have h1:=(HKS.out.mem ks[k]).1 (List.getElem_mem hlt);rcases HC.out ks[k] with h2 | ⟨_,_,h2,_⟩
    ·rw [Maps.has_false_of_atKey h2] at h1;cases h1
    ·exact h2
   have hlk:=Ys1 (HMW.out.below hbr) HC.out ks[k] (by omega);have hT:ks.take (k+1)=ks.take k ++ [ks[k]]:=by simp
   have HS:Hid (Ycz M (ks.take (k+1))=if (Yat M ks[k]).1 then Ycz M (ks.take k) ++ [(ks[k],(Yat M ks[k]).2)] else Ycz M (ks.take k)):=by show _=_;rw [hT];exact Y00 _ _ _
   have hL:(Ycz M (ks.take k)).length≤100000:=Nat.le_trans (Y01 _ _) (by simp;omega);clear hbr hownr hT;generalize Ycz M (ks.take k)=out at hout hL HS;generalize Yat M ks[k]=c at hlk HS;generalize ks[k]=kk at c0 hlk HS hksz;obtain ⟨ci,cv⟩:=c;simp only at hlk HS;have HOUT:=Yh hout;clear hout;have HB2:Hid (Below w1.heap.size w1 (wr.alloc (.cells #[.bool ci,.string cv] 38))):=HBR.out.alloc hsz _
   cases ci with
   | false=>
    simp only [Bool.false_eq_true,if_false] at HS;go_wp2;refine ⟨⟨k+1,by omega,by simp,?_,HB2.out⟩,by simp [intOf];omega⟩;rw [HS.out];exact HOUT.out.alloc _
   | true=>
    simp only [if_true] at HS;go_wp2_with (first
     | (at_builtin;go_must (
      refine Yg9 rfl _ _ rfl w1.heap.size _ out rfl ((HOUT.out.alloc _).alloc _) (wr.heap.size+1) kk cv rfl (by simpa using heap_alloc_new (wr.alloc (.cells #[.bool true,.string cv] 38)) _) (by omega) (by simp;omega) ?_;intro v5 w5 hown5 hb5;have HO5:=Yh hown5;have HB5:Hid (Below w1.heap.size w1 w5):=HB2.out.trans (((Below.refl _ _).alloc (by simp;omega) _).trans hb5);clear hown5 hb5)))
    refine ⟨⟨k+1,by omega,by simp,?_,HB5.out⟩,by simp [intOf];omega⟩;rw [HS.out];exact HO5.out
  ·have hlt':¬(k:Int)<(ks.length:Int):=by omega
   obtain rfl:k=ks.length:=by omega
   rw [List.take_length] at hout;have HOUT:=Yh hout;clear hout hbr;go_wp2;go_ret;exact ⟨_,rfl,ks,HKS.out,Yfg HOUT.out HB1.out.size,HB1.out.trans (HBR.out.mono HB1.out.size)⟩
def Ygd (s:Sv):Prop:=∀ n,n<8→∀ p∈s.cont n,Yae p.1=n
theorem Yod:∀ {l:Yaf} {key v:ByteArray},(∀ p∈l,p.1=key→p.2=v)→(∃ p∈l,p.1=key)→Yag l key=(true,v)
 | [],_,_,_,h=>by obtain ⟨p,hp,_⟩:=h;cases hp
 | p :: r,key,v,h1,h2=>by
  rw [Yag];by_cases hp:p.1=key
  ·rw [if_pos hp,h1 p (by simp) hp]
  ·rw [if_neg hp]
   refine Yod (fun q hq=>h1 q (by simp [hq])) ?_;obtain ⟨q,hq,he⟩:=h2;rcases List.mem_cons.1 hq with rfl | hq
   ·exact absurd he hp
   ·exact ⟨q,hq,he⟩
theorem Yl2 (l:Yaf) (key:ByteArray):(∃ p∈l,p.1=key∧Yag l key=(true,p.2))∨((∀ p∈l,p.1≠key)∧Yag l key=(false,ByteArray.empty)):=by
 induction l with
 | nil=>exact .inr ⟨fun p hp=>(List.not_mem_nil hp).elim,rfl⟩
 | cons p r ih=>
  rw [Yag];by_cases hp:p.1=key
  ·exact .inl ⟨p,by simp,hp,by rw [if_pos hp]⟩
  ·rw [if_neg hp]
   rcases ih with ⟨q,hq,h1,h2⟩ | ⟨h1,h2⟩
   ·exact .inl ⟨q,by simp [hq],h1,h2⟩
   ·exact .inr ⟨fun q hq=>by
     rcases List.mem_cons.1 hq with rfl | hq
     ·exact hp
     ·exact h1 q hq,h2⟩
theorem Y02 {ps:Yaf} (h:Ybi ps) {p q:ByteArray×ByteArray} (hp:p∈ps) (hq:q∈ps) (e:p.1=q.1):p=q:=by
 obtain ⟨i,hi,rfl⟩:=List.getElem_of_mem hp;obtain ⟨j,hj,rfl⟩:=List.getElem_of_mem hq;rcases Nat.lt_trichotomy i j with h1 | h1 | h1
 ·exact absurd e (Yej (h i j hi hj h1))
 ·subst h1;rfl
 ·exact absurd e.symm (Yej (h j i hj hi h1))
def Yb9 (s:Sv) (n j:Nat):Yaf:=(List.range n).flatMap s.cont ++ (s.cont n).take j
theorem Y03 (s:Sv) (n:Nat):Yb9 s n (s.cont n).length=Yb9 s (n+1) 0:=by
 unfold Yb9;rw [List.range_succ,List.flatMap_append,List.take_length,List.take_zero];simp
theorem Y04 (s:Sv) (n j:Nat) (h:j<(s.cont n).length):Yb9 s n (j+1)=Yb9 s n j ++ [(s.cont n)[j]]:=by
 unfold Yb9;rw [List.append_assoc];simp
theorem Ys5 (g:Yar s) (hb:Ygd s) (key:ByteArray):Yag (Yb9 s 8 0).reverse key=Yag (s.cont (Yae key)) key:=by
 have hm:∀ p,p∈(Yb9 s 8 0).reverse↔∃ n,n<8∧p∈s.cont n:=fun p=>by
  unfold Yb9;simp
 rcases Yl2 (s.cont (Yae key)) key with ⟨p,hp,h1,h2⟩ | ⟨h1,h2⟩
 ·rw [h2]
  refine Yod (fun q hq e=>?_) ⟨p,(hm p).2 ⟨_,Ycy key,hp⟩,h1⟩;obtain ⟨n,hn,hq'⟩:=(hm q).1 hq;have:n=Yae key:=by rw [←hb n hn q hq',e]
  subst this;rw [Y02 (g.rise _ hn).1 hq' hp (by rw [e,h1])]
 ·rw [h2]
  exact Ynw fun q hq e=>by
   obtain ⟨n,hn,hq'⟩:=(hm q).1 hq;have:n=Yae key:=by rw [←hb n hn q hq',e]
   subst this;exact h1 q hq' e
theorem Yab.beside (h:Yab w w1 s s') {mb:Nat} (hm:w.heap.size≤mb) (hn:∀ tag,s'.blk tag≠some mb) (hk:∀ q,q<w1.heap.size→q≠mb→w2.heap[q]? = w1.heap[q]?) (hb:Below 0 w1 w2):Yab w w2 s s':=by
 have hz:=h.below.size;refine ⟨h.lies.frame (fun tag k hk'=>hk k (h.lies.lt tag k hk') (fun e=>hn tag (by rw [←e];exact hk'))) hb.size,h.good,h.grown,fun q hq hnt=>?_,h.below.trans hb⟩;exact (hk q (by omega) (by omega)).trans (h.off q hq hnt)
theorem Ys6 (hm:Maps.IsMap M) (k key:ByteArray) (is:Bool) (v:ByteArray):Yat (M.put (lit k) (.held (.agg #[.bool is,.string v]))) key=if key=k then (is,v) else Yat M key:=by
 by_cases hs:key=k
 ·subst hs
  rw [if_pos rfl];unfold Yat Yc4;rw [Maps.atKey_put_same hm (by simp [WideAt.IsKeyLit])];rfl
 ·rw [if_neg hs]
  unfold Yat Yc4;rw [Maps.atKey_put_other (fun e=>hs (Yhg e))]
structure Yfr (w:World) (b n:Nat) (M:DataW Value) (l:Yaf):Prop where
 map:Yap w 9 b n M
 ok:Yd0 M
 num:n≤l.length
 says:∀ key,Yat M key=Yag l.reverse key
theorem Ys7 (h:Yan w s) (g:Yar s):
 Calls prog 79 #[.pointer (some ⟨s.kb,2,none⟩)] w fun e w'=>e=.returned (.map (some w.heap.size))∧∃ n M s',Yfr w' w.heap.size n M (Yb9 s 8 0)∧Yau s s'∧Yab w w' s s'∧∀ tag,s'.blk tag≠some w.heap.size:=by
 have hmm:=@run_makeMap prog
 have hSK:Maps.Keyed prog 9:=Maps.string_keyed underlying9
 have hB0:Below w.heap.size w (w.alloc (.map #[] 0)):=(Below.refl _ w).alloc (Nat.le_refl _) _
 have HST:Hid (∃ n M s',Yfr (w.alloc (.map #[] 0)) w.heap.size n M (Yb9 s 0 0)∧Yau s s'∧Yab w (w.alloc (.map #[] 0)) s s'∧∀ tag,s'.blk tag≠some w.heap.size):=
  ⟨0,.map [],s,⟨World.ownsMap_made w prog 9 Yb0,Yd0.empty,Nat.zero_le _,fun key=>by
   unfold Yat Yc4;rw [Maps.atKey_of_not_has (by simp [Maps.has_eq])];simp [Yb9,Yag,Yn1]⟩,Yau.refl s,Yab.of_below h g hB0,fun tag ht=>by have:=h.lt tag _ ht;omega⟩
 have KP:Hid (∀ (W:World) (sX:Sv) (n nM:Nat) (M:DataW Value),n<8→Yfr W w.heap.size nM M (Yb9 s n 0)→Yau s sX→Yab w W s sX→(∀ tag,sX.blk tag≠some w.heap.size)→Calls prog 111 #[.pointer (some ⟨s.kb,2,none⟩),.int .i64 (n:Int)] W fun e w'=>∃ gb x cp,e=.returned (.pointer (some ⟨gb,0,none⟩))∧w'.cell? ⟨gb,1,none⟩=some (.slice x (s.cont n).length cp)∧w'.ownsRow 0 43 2 (.slice x (s.cont n).length cp) (s.cont n).length (Yad (s.cont n))∧(Value.slice x (s.cont n).length cp).ownBlock≠some w.heap.size∧Yfr w' w.heap.size nM M (Yb9 s n 0)∧∃ s',Yau s s'∧Yab w w' s s'∧∀ tag,s'.blk tag≠some w.heap.size):=fun W sX n nM M hn hc hp hg hnb=>by
  have hkb:sX.kb=s.kb:=hp.same.1;rw [←hkb];refine (Yrw hg.lies hg.good n hn).mono ?_;rintro e w' ⟨s',p,rfl,h1,h2,h3⟩;have hmb:=hc.map.lt;have hnb':∀ tag,s'.blk tag≠some w.heap.size:=fun tag ht=>by
   rcases h3.grown tag _ ht with h4 | h4
   ·exact hnb tag h4
   ·omega
  have hp':=hp.trans h2;have hct:s'.cont=s.cont:=hp'.same.2.2.1;have hpg:=h3.lies.comp (.page n) p h1;have hrow:=h3.lies.comp (.row n) p h1;rw [hct] at hrow;obtain ⟨x,cp,hx,_⟩:=Ya6 hrow;rw [hx] at hrow hpg;exact ⟨p.g,x,cp,rfl,Yaa (j:=1) hpg rfl,hrow,by rw [←hx];exact fun e=>hnb' (.row n) (by rw [Yhj h1];exact e),⟨hc.map.kept (h3.off _ hmb hnb),hc.ok,hc.num,hc.says⟩,s',hp',hg.trans h3,hnb'⟩
 have HRI:Hid (∀ n,n<8→(s.cont n).length≤4∧∀ p∈s.cont n,p.1.size≤8∧p.2.size≤12):=fun n hn=>(g.rise n hn).2
 generalize hkb:s.kb=kb at KP ⊢
 clear h g hB0
 go_enter func79,ntmps79
 go_wp2
 go_loopw [8] (fun i wr=>∃ n:Nat,n≤8∧i=.int .i64 n∧∃ nM M s',Yfr wr w.heap.size nM M (Yb9 s n 0)∧Yau s s'∧Yab w wr s s'∧∀ tag,s'.blk tag≠some w.heap.size) (fun i _=>8 - (intOf i).toNat)
 case atStart=>exact ⟨0,by omega,rfl,HST.out⟩
 case round=>
  obtain ⟨n,hn,rfl,nM,M,sX,hcA,hpA,hgA,hnA⟩:=hrel;have HA:Hid (Yfr wr w.heap.size nM M (Yb9 s n 0)∧Yau s sX∧Yab w wr s sX∧∀ tag,sX.blk tag≠some w.heap.size):=⟨hcA,hpA,hgA,hnA⟩;clear hcA hpA hgA hnA;by_cases hlt:n<8
  ·have hlt':(n:Int)<8:=by omega
   obtain ⟨wa,rfl⟩:∃ wa,wa=wr:=⟨_,rfl⟩;obtain ⟨hps4,hpsz⟩:=HRI.out n hlt;have HPS:=Yh hpsz;clear hpsz;go_wp2_with (first
    | (go_at_call 111;go_must (
     refine (KP.out wa sX n nM M hlt HA.out.1 HA.out.2.1 HA.out.2.2.1 HA.out.2.2.2).mono ?_;rintro e w1 ⟨gb,x,cp,rfl,cg,hrow,hno,hcB,hrest⟩;have HROW:=Yh hrow;have HNO:=Yh hno;have HCB:=Yh hcB;have HRE:=Yh hrest;clear hrow hno hcB hrest)))
   go_loopw [18] (fun i wr=>∃ (j nK:Nat) (K:DataW Value),j≤(s.cont n).length∧i=.int .i64 j∧Yfr wr w.heap.size nK K (Yb9 s n j)∧(∀ q,q<w1.heap.size→q≠w.heap.size→wr.heap[q]? = w1.heap[q]?)∧Below 0 w1 wr) (fun i _=>(s.cont n).length - (intOf i).toNat)
   case atStart=>exact ⟨0,nM,M,by omega,rfl,HCB.out,fun _ _ _=>rfl,Below.refl _ _⟩
   case round=>
    obtain ⟨j,nK,K,hj,rfl,hcK,hfr,hbw⟩:=hrel;have HCK:=Yh hcK;have HFR:=Yh hfr;have HBW:=Yh hbw;have hzw:w.heap.size<wr.heap.size:=hcK.map.lt;have HOR:Hid (wr.ownsRow 0 43 2 (.slice x (s.cont n).length cp) (s.cont n).length (Yad (s.cont n))):=Yda HROW.out (fun q hq=>hfr q (HROW.out.lt q hq).2 (fun e=>HNO.out (by rw [hq,e])));clear hcK hfr hbw cg hmm;by_cases hltj:j<(s.cont n).length
    ·have hltj':(j:Int)<((s.cont n).length:Int):=by omega
     obtain ⟨g2,cap',he⟩:=Ybn HOR.out (by omega);simp only [Value.slice.injEq] at he;obtain ⟨rfl,-,rfl⟩:=he;obtain ⟨hc0,hc1⟩:=Ye2 (s.cont n) j (s.cont n)[j] (List.getElem?_eq_getElem hltj);have c0:=Yal HOR.out hc0;have c1:=Yal HOR.out hc1;have hpk:(s.cont n)[j].1.size≤8∧(s.cont n)[j].2.size≤12:=HPS.out _ (List.getElem_mem hltj);have HSN:Hid (Yb9 s n (j+1)=Yb9 s n j ++ [(s.cont n)[j]]):=Y04 s n j hltj;have hnum:nK≤1000:=by
      have h1:=HCK.out.num;have h2:(Yb9 s n j).length≤4*n+4:=by
       unfold Yb9;rw [List.length_append];have h3:∀ m,m≤8→((List.range m).flatMap s.cont).length≤4*m:=fun m=>by
        induction m with
        | zero=>intro _;simp
        | succ m ih=>
         intro hm;rw [List.range_succ,List.flatMap_append,List.length_append];have:=ih (by omega);have:=(HRI.out m (by omega)).1;have e1:([m].flatMap s.cont).length=(s.cont m).length:=by simp
         omega
       have:=h3 n hn;have:((s.cont n).take j).length≤4:=by simp;omega
       omega
      omega
     clear hc0 hc1;generalize (s.cont n)[j]=pj at c0 c1 hpk HSN;obtain ⟨pk,pv⟩:=pj;simp only at c0 c1 hpk;go_wp2_with (first
      | (at_mapUpdate;go_must (
       refine wpList_mapUpdate_in _ rfl _ _ _ 138 rfl 9 38 hSK underlying138 Yb0 w.heap.size nK K rfl ?hm (by unfold maxLen;omega) (.string pk) (.agg #[.bool true,.string pv]) (lit pk) rfl rfl (Yfk pk (by omega)) (.held (.agg #[.bool true,.string pv])) [] rfl ?_
       case hm=>exact HCK.out.map.kept (Below.heap_alloc _ _ _ hzw)
       intro w5 hm5 htu5;have HM5:=Yh hm5;have HT5:=Yh htu5;clear hm5 htu5)))
     obtain ⟨t1,t2,t3⟩:=Ygq HT5.out;have hIs:=World.ownsMap.isMap HCK.out.map;refine ⟨⟨j+1,nK+1,_,by omega,by simp,⟨HM5.out,HCK.out.ok.put hIs pk hpk.1 true pv hpk.2,?_,fun key=>?_⟩,fun q h1 h2=>?_,?_⟩,by simp [intOf];omega⟩
     ·rw [HSN.out,List.length_append]
      have:=HCK.out.num;simp;omega
     ·rw [Ys6 hIs,HSN.out,List.reverse_append,HCK.out.says]
      show _=Yag ((pk,pv) :: _) key;rw [Yag];by_cases he:key=pk
      ·rw [if_pos he,if_pos he.symm]
      ·rw [if_neg he,if_neg (fun e=>he e.symm)];rfl
     ·rw [t1 q h2,Below.heap_alloc _ _ _ (by have:=HBW.out.size;omega)];exact HFR.out q h1 h2
     ·exact (HBW.out.alloc (Nat.zero_le _) _).trans t3
    ·obtain rfl:j=(s.cont n).length:=by omega
     go_wp2;obtain ⟨s',r1,r2,r3⟩:=HRE.out;refine ⟨⟨n+1,by omega,by simp,nK,K,s',?_,r1,r2.beside (Nat.le_refl _) r3 HFR.out HBW.out,r3⟩,by simp [intOf];omega⟩;rw [←Y03];exact HCK.out
  ·obtain rfl:n=8:=by omega
   go_wp2;go_ret;exact ⟨rfl,nM,M,sX,HA.out⟩
structure Ys8 (w':World) (B:Nat) (s':Sv) (v:Value) (ps:Yaf):Prop where
 row:w'.ownsRow B 43 2 v ps.length (Yad ps)
 apart:∀ tag k,s'.blk tag=some k→k<B
 rise:Ybi ps
theorem Yab.on_below (h:Yab w w1 s s') (hb:Below w1.heap.size w1 w2):Yab w w2 s s':=h.trans (Yab.of_below h.lies h.good hb)
theorem Y05 (h:Yan w s) (g:Yar s) (hb:Ygd s):
 Calls prog 276 #[.pointer (some ⟨s.kb,0,none⟩)] w fun e w'=>∃ v B ps s',e=.returned v∧w.heap.size≤B∧Ys8 w' B s' v ps∧(∀ key,Yag ps key=Yag (s.cont (Yae key)) key)∧Yau s s'∧Yab w w' s s':=by
 have KC:=Yh (Ys7 h g)
 have HU:Hid (∀ key,Yag (Yb9 s 8 0).reverse key=Yag (s.cont (Yae key)) key):=Ys5 g hb
 have HN:Hid ((Yb9 s 8 0).length≤1000):=by
  have h3:∀ m,m≤8→((List.range m).flatMap s.cont).length≤4*m:=fun m=>by
   induction m with
   | zero=>intro _;simp
   | succ m ih=>
    intro hm;rw [List.range_succ,List.flatMap_append,List.length_append];have:=ih (by omega);have:=(g.rise m (by omega)).2.1;have e1:([m].flatMap s.cont).length=(s.cont m).length:=by simp
    omega
  have:=h3 8 (by omega);show (Yb9 s 8 0).length≤1000;unfold Yb9;simp only [List.length_append,List.take_zero,List.length_nil];omega
 generalize hkb:s.kb=kb at KC ⊢
 clear h g hb
 go_enter func276,ntmps276
 go_wp2_with (first
  | (go_at_call 79;go_must (
   refine KC.out.mono ?_;rintro e w1 ⟨rfl,n,M,s',h1,h2,h3,h4⟩;have HX:Hid (Yfr w1 w.heap.size n M (Yb9 s 8 0)∧Yau s s'∧Yab w w1 s s'):=⟨h1,h2,h3⟩;clear h1 h2 h3 h4))
  | (go_at_call 78;go_must (
   refine (Ys4 HX.out.1.map HX.out.1.ok (by have:=HX.out.1.num;have:=HN.out;omega)).mono ?_;rintro e w2 ⟨v,ks,rfl,k1,k2,k3⟩;have HY:Hid (Yfq M ks∧w2.ownsRow w1.heap.size 43 2 v (Ycz M ks).length (Yad (Ycz M ks))∧Below w1.heap.size w1 w2):=⟨k1,k2,k3⟩;clear k1 k2 k3)))
 go_ret
 obtain ⟨k1,k2,k3⟩:=HY.out
 obtain ⟨h1,h2,h3⟩:=HX.out
 refine ⟨v,w1.heap.size,Ycz M ks,s',rfl,h3.below.size,⟨k2,fun tag k hk=>h3.lies.lt tag k hk,Ygr.2 (Yl1 k1.rise)⟩,fun key=>?_,h2,h3.on_below k3⟩
 rw [Ys3 k1,h1.says,HU.out]
 rcases Yl2 (s.cont (Yae key)) key with ⟨p,_,_,e⟩ | ⟨_,e⟩ <;> rw [e] <;> rfl
theorem Y06 (c:Nat) (w:World):(method 476 234 (.pointer (some ⟨c,0,none⟩)) "Committed").run prog w=.ok (301,.pointer (some ⟨c,0,none⟩)) w:=by kernel_rfl
theorem Y07 (c:Nat) (w:World):(method 476 224 (.pointer (some ⟨c,0,none⟩)) "Committed").run prog w=.ok (276,.pointer (some ⟨c,0,none⟩)) w:=by kernel_rfl
theorem Y08 (a kb:Nat) (R:Value→World→Prop) (ca:w.cell? ⟨a,2,none⟩=some (.iface 234 (.pointer (some ⟨kb,0,none⟩)))) (K:Calls prog 301 #[.pointer (some ⟨kb,0,none⟩)] w fun e w'=>∃ v,e=.returned v∧R v w'):
 Calls prog 35 #[.pointer (some ⟨a,0,none⟩)] w fun e w'=>∃ v,e=.returned (.tuple #[v,.int .i64 0])∧R v w':=by
 have HK:=Yh K
 have hme:=Y06
 clear K
 go_enter func35,ntmps35
 go_wp2_with (first
  | (go_at_call 41;refine (Yfz _ _ _ _ ca).mono ?_;rintro e w' ⟨rfl,rfl⟩)
  | (go_at_call 301;go_must (refine HK.out.mono ?_;rintro e w' ⟨v,rfl,hr⟩;have HR:=Yh hr;clear hr)))
 go_ret2
 exact ⟨v,rfl,HR.out⟩
theorem Y09 (a kb:Nat) (R:Value→World→Prop) (ca:w.cell? ⟨a,2,none⟩=some (.iface 224 (.pointer (some ⟨kb,0,none⟩)))) (K:Calls prog 276 #[.pointer (some ⟨kb,0,none⟩)] w fun e w'=>∃ v,e=.returned v∧R v w'):
 Calls prog 35 #[.pointer (some ⟨a,0,none⟩)] w fun e w'=>∃ v,e=.returned (.tuple #[v,.int .i64 0])∧R v w':=by
 have HK:=Yh K
 have hme:=Y07
 clear K
 go_enter func35,ntmps35
 go_wp2_with (first
  | (go_at_call 41;refine (Yfz _ _ _ _ ca).mono ?_;rintro e w' ⟨rfl,rfl⟩)
  | (go_at_call 276;go_must (refine HK.out.mono ?_;rintro e w' ⟨v,rfl,hr⟩;have HR:=Yh hr;clear hr)))
 go_ret2
 exact ⟨v,rfl,HR.out⟩
def Ydi (c:Nat→Yaf) (M:DataW Value):List ByteArray→Nat→Yaf
 | []=>c
 | k :: r=>Ydi (fun n=>if n=Yae k then Yaw (c n) k (Yat M k).1 (Yat M k).2 else c n) M r
theorem Yoe (M:DataW Value):∀ (l:List ByteArray) (c:Nat→Yaf) (k:ByteArray),Ydi c M (l ++ [k])=fun n=>if n=Yae k then Yaw (Ydi c M l n) k (Yat M k).1 (Yat M k).2 else Ydi c M l n
 | [],_,_=>rfl
 | _ :: r,_,k=>Yoe M r _ k
theorem Ys9 {c:Nat→Yaf} (M:DataW Value) (hr:∀ n,n<8→Ybi (c n)):∀ (l:List ByteArray),(∀ n,n<8→Ybi (Ydi c M l n))∧(∀ n,n<8→∀ p∈Ydi c M l n,p∈c n∨(p.1∈l∧Yae p.1=n)) ∧
 (∀ key,(key∈l→Yag (Ydi c M l (Yae key)) key=if (Yat M key).1 then (true,(Yat M key).2) else (false,ByteArray.empty))∧(key∉l→Yag (Ydi c M l (Yae key)) key=Yag (c (Yae key)) key)):=by
 intro l
 have hl:∃ l',l=List.reverse l':=⟨l.reverse,by simp⟩
 obtain ⟨l',rfl⟩:=hl
 induction l' with
 | nil=>exact ⟨hr,fun n hn p hp=>.inl hp,fun key=>⟨fun h=>by simp at h,fun _=>by simp [Ydi]⟩⟩
 | cons k r ih=>
  obtain ⟨h1,h2,h3⟩:=ih;rw [List.reverse_cons,Yoe];refine ⟨fun n hn=>?_,fun n hn p hp=>?_,fun key=>?_⟩
  ·by_cases hk:n=Yae k
   ·simp only [hk,if_true];rw [←hk];exact Yfo (h1 n hn) _ _ _
   ·simp only [hk,if_false];exact h1 n hn
  ·by_cases hk:n=Yae k
   ·simp only [hk,if_true] at hp
    rw [←hk] at hp;rcases Yhk (h1 n hn) _ _ _ hp with h4 | ⟨_,h4⟩
    ·rcases h2 n hn p h4 with h5 | ⟨h5,h6⟩
     ·exact .inl h5
     ·exact .inr ⟨by simp at h5 ⊢;exact .inl h5,h6⟩
    ·rw [h4];exact .inr ⟨by simp,hk.symm⟩
   ·simp only [hk,if_false] at hp
    rcases h2 n hn p hp with h5 | ⟨h5,h6⟩
    ·exact .inl h5
    ·exact .inr ⟨by simp at h5 ⊢;exact .inl h5,h6⟩
  ·by_cases hb:Yae key=Yae k
   ·simp only [hb,if_true]
    rw [←hb,Yic (h1 _ (Ycy key))];by_cases he:key=k
    ·subst he
     exact ⟨fun _=>by simp,fun h=>absurd (by simp) h⟩
    ·rw [if_neg he]
     exact ⟨fun h=>(h3 key).1 (by simpa [he] using h),fun h=>(h3 key).2 (by simpa [he] using h)⟩
   ·simp only [hb,if_false]
    have he:key≠k:=fun e=>hb (by rw [e])
    exact ⟨fun h=>(h3 key).1 (by simpa [he] using h),fun h=>(h3 key).2 (by simpa [he] using h)⟩
def Ydc (last len j:Nat):Nat:=if j=0 then last else len+j
theorem Yta {last len:Nat} (h:last≤len) (j:Nat):Ydc last len j≤len+j:=by
 unfold Ydc;split <;> omega
theorem Ytb (last len j:Nat):Ydc last len (j+1)=len+(j+1):=by simp [Ydc]
def Sv.ents (s:Sv):List Yac:=s.log.map (·.1)
structure Ent (s s':Sv) (t:Int) (x x':TxE) (n:Nat) (es:List Yac):Prop where
 cont:s'.cont=s.cont
 tx:s'.tx=fun u=>if u=t then some x' else s.tx u
 xH:x'.H=x.H∧x'.nH=x.nH∧x'.last=Ydc x.last s.len n
 nums:s'.len=s.len+n∧s'.acts=s.acts∧s'.begun=s.begun∧s'.start=s.start
 same:s'.kb=s.kb∧s'.mo=s.mo∧s'.made=s.made∧s'.mt=s.mt∧s'.mc=s.mc
 log:s'.ents=s.ents ++ es
theorem Ent.last (h:Ent s s' t x x' n es) (hl:x.last≤s.len):x'.last≤s'.len:=by
 rw [h.xH.2.2,h.nums.1];exact Yta hl n
theorem Ent.refl (hx:s.tx t=some x):Ent s s t x x 0 []:=
 ⟨rfl,by
  funext u;by_cases hu:u=t
  ·rw [if_pos hu,hu];exact hx
  ·rw [if_neg hu],⟨rfl,rfl,rfl⟩,⟨rfl,rfl,rfl,rfl⟩,⟨rfl,rfl,rfl,rfl,rfl⟩,(List.append_nil _).symm⟩
theorem Ent.paged {s2:Sv} (h:Ent s s' t x x' n es) (p:Yau s' s2):Ent s s2 t x x' n es:=by
 obtain ⟨P,m,rfl,_⟩:=p;exact ⟨h.cont,h.tx,h.xH,h.nums,h.same,h.log⟩
theorem Ent.enter (h:Ent s s' t x x' n es) (e:Yac) (v':Value):Ent s (Ybr s' t x' e v') t x { x' with last:=s'.len+1 } (n+1) (es ++ [{ e with tx:=t,prev:=(Ydc x.last s.len n:Int) }]):=by
 obtain ⟨h1,h2,h3,h4,h5,h6⟩:=h;refine ⟨h1,?_,⟨h3.1,h3.2.1,?_⟩,⟨?_,h4.2⟩,h5,?_⟩
 ·funext u
  show (if u=t then some { x' with last:=s'.len+1 } else s'.tx u)=_;by_cases hu:u=t
  ·rw [if_pos hu,if_pos hu]
  ·rw [if_neg hu,if_neg hu,h2];simp [hu]
 ·show s'.len+1=Ydc x.last s.len (n+1)
  rw [h4.1,Ytb];omega
 ·show s'.len+1=s.len+(n+1)
  rw [h4.1];omega
 ·show List.map (fun p=>p.1) (s'.log ++ [_])=_
  rw [List.map_append,←List.append_assoc,←h6,←h3.2.2];rfl
structure Yje (s s':Sv) (t:Int) (x':TxE) (n j:Nat) (c:Nat→Yaf) (es:List Yac):Prop where
 cont:s'.cont=c
 tx:s'.tx=fun u=>if u=t then some x' else s.tx u
 nums:s'.len=s.len+n∧s'.acts=s.acts∧s'.begun=s.begun∧s'.start=s.start∧s'.mc.n=s.mc.n+j
 same:s'.kb=s.kb∧s'.mo=s.mo∧s'.made=s.made∧s'.mt=s.mt
 log:s'.ents=s.ents ++ es
theorem Yje.made {c:Nat→Yaf} (h:Yje s s' t x' n j c es) {md:Ybh} (hm:Ya7 s md):Ya7 s' md:=by
 obtain ⟨_,_,h4,h5,_⟩:=h;exact ⟨h5.2.2.1.trans hm.made,by rw [h5.2.2.2];exact hm.have',by rw [h5.2.2.2];exact hm.lack,by rw [h5.2.2.2,h4.2.1];exact hm.cells,by rw [h4.2.1];exact hm.num⟩
structure Yfs (s s':Sv) (t:Int) (c:Nat→Yaf) (n:Nat) (es:List Yac):Prop where
 cont:s'.cont=c
 tx:s'.tx=fun u=>if u=t then none else s.tx u
 mt:s'.mt=fun u=>if u=t then none else s.mt u
 nums:s'.acts=s.acts∧s'.begun=s.begun∧s'.kb=s.kb∧s'.start=s.start∧s'.mo.M=s.mo.M.del (.int .i64 t)∧s'.len≤s.len+n
 grew:s.len≤s'.len
 log:s'.ents=s.ents ++ es
theorem Y1a (h:Yan w s) (hm:Ya7 s md) (t:Int) (ht:Yax t) {m:Ybh} (hmt:s.mt t=some m):(Instr.lookup 231 (.map (some md.b)) (.int .i64 t) false).run prog w=.ok (.map (some m.b)) w:=by
 have:=Ykk h hm t ht;rw [hmt] at this;exact this
theorem Y1b (h:Yan w s) (g:Yar s) (hh:Yao s q) (hm:Ya7 s md) (t:Int) (ht:Yax t) (hmt:s.mt t=none):
 Calls prog 275 #[.pointer (some ⟨s.kb,0,none⟩),.int .i64 t] w fun e w'=>e=.returned (.tuple #[])∧∃ s' md',Yfs s s' t s.cont 0 []∧Ya7 s' md'∧Yab w w' s s'∧Yao s' q:=by
 have c8:=Yi9 h hm
 have hlk:=Ykk h hm t ht
 rw [hmt] at hlk
 simp only [Option.map_none] at hlk
 have KK:Hid (Calls prog 110 #[.map none] w fun e w'=>e=.returned (.func (.func 156) #[] #[.pointer (some ⟨w.heap.size,0,none⟩)])∧w'=w.alloc (.cells #[.map none] 138)):=Yoc _ w
 have KS:=Yh (Y0w w)
 have KE:Hid (∀ W,Below w.heap.size w W→Calls prog 284 #[.pointer (some ⟨s.kb,0,none⟩),.int .i64 t] W fun e w'=>e=.returned (.tuple #[])∧∃ s' md',Yfs s s' t s.cont 0 []∧Ya7 s' md'∧Yab w w' s s'∧Yao s' q):=fun W hW=>by
  refine (Yn2 (h.below hW) g hh hm t ht).mono ?_;rintro e w' ⟨h1,h2,h3,h4⟩;exact ⟨h1,Ybv (Yb5 s md t) t,_,⟨rfl,rfl,rfl,⟨rfl,rfl,rfl,rfl,rfl,Nat.le_refl _⟩,Nat.le_refl _,(List.append_nil _).symm⟩,h4,(Yab.of_below h g hW).trans h2,h3⟩
 have HB:Hid (∀ w2,Below (w.alloc (.cells #[.map none] 138)).heap.size (w.alloc (.cells #[.map none] 138)) w2→Below w.heap.size w w2):=fun w2 h2=>((Below.refl _ w).alloc (Nat.le_refl _) _).trans (h2.mono (by simp))
 generalize hP:(fun w'=>∃ s' md',Yfs s s' t s.cont 0 []∧Ya7 s' md'∧Yab w w' s s'∧Yao s' q)=P
 have KE2:Hid (∀ W,Below w.heap.size w W→Calls prog 284 #[.pointer (some ⟨s.kb,0,none⟩),.int .i64 t] W fun e w'=>e=.returned (.tuple #[])∧P w'):=by rw [←hP];exact KE.out
 show Calls prog 275 #[.pointer (some ⟨s.kb,0,none⟩),.int .i64 t] w fun e w'=>e=.returned (.tuple #[])∧(fun w'=>∃ s' md',Yfs s s' t s.cont 0 []∧Ya7 s' md'∧Yab w w' s s'∧Yao s' q) w'
 rw [hP]
 generalize hkb:s.kb=kb at c8 KE2
 clear h g hh hm KE hP
 go_enter func275,ntmps275
 go_wp2_with (first
  | (go_at_call 110;go_must (
   refine KK.out.mono ?_;rintro e w0 ⟨rfl,rfl⟩))
  | (go_at_call 109;go_must (
   refine KS.out.mono ?_;rintro e w1 ⟨rfl,hb1⟩;have HB1:Hid (Below w.heap.size w w1):=HB.out w1 hb1;clear hb1)))
 go_loopw [21] (fun i wr=>i=.int .i64 0∧wr=w1) (fun _ _=>0)
 case atStart=>exact ⟨rfl,rfl⟩
 case round=>
  obtain ⟨rfl,rfl⟩:=hrel;go_wp2;go_loopw [58] (fun i w2=>i=.int .i64 0∧w2=wr) (fun _ _=>0)
  case atStart=>exact ⟨rfl,rfl⟩
  case round=>
   obtain ⟨rfl,rfl⟩:=hrel;go_wp2_with (first
    | (go_at_call 284;go_must (
     refine (KE2.out _ HB1.out).mono ?_;rintro e w3 ⟨rfl,hp⟩;have HP:=Yh hp;clear hp)))
   go_end0;exact ⟨rfl,HP.out⟩
def Yd2 (s:Sv) (M:DataW Value) (k:ByteArray):Yac:=⟨1,0,0,0,k,(Yag (s.cont (Yae k)) k).1,(Yag (s.cont (Yae k)) k).2,(Yat M k).1,(Yat M k).2⟩
theorem Ytc (h:Yd0 M) (k:ByteArray):(Yat M k).2.size≤12:=by
 rcases h k with h1 | ⟨is,val,_,h2,h1⟩
 ·unfold Yat Yc4;rw [h1];simp [Yn1]
 ·unfold Yat Yc4;rw [h1];exact h2
theorem Ent.held (h:Ent s s' t x x' n es) (hx:s.tx t=some x) (hh:Yao s q):Yao s' q:=fun u y hy=>by
 rw [h.tx] at hy;by_cases hu:u=t
 ·simp only [hu,if_true,Option.some.injEq] at hy
  subst hy;obtain ⟨h1,h2,h3⟩:=hh t x hx;rw [h.xH.1,h.xH.2.1];exact ⟨h1,h2,h3⟩
 ·simp only [hu,if_false] at hy
  exact hh u y hy
theorem Yje.held {c:Nat→Yaf} (h:Yje s s' t x' n j c es) (hH:x'.H=x.H∧x'.nH=x.nH) (hx:s.tx t=some x) (hh:Yao s q):Yao s' q:=fun u y hy=>by
 rw [h.tx] at hy;by_cases hu:u=t
 ·simp only [hu,if_true,Option.some.injEq] at hy
  subst hy;obtain ⟨h1,h2,h3⟩:=hh t x hx;rw [hH.1,hH.2];exact ⟨h1,h2,h3⟩
 ·simp only [hu,if_false] at hy
  exact hh u y hy
def Yft (s:Sv) (M:DataW Value) (t:Int) (last:Nat) (ks:List ByteArray):List Yac:=ks.mapIdx fun j k=>{ Yd2 s M k with tx:=t,prev:=(Ydc last s.len j:Int) }
theorem Y1c (s:Sv) (M:DataW Value) (t:Int) (last:Nat) (ks:List ByteArray) (i:Nat) (h:i<ks.length):Yft s M t last (ks.take (i+1))=Yft s M t last (ks.take i) ++ [{ Yd2 s M ks[i] with tx:=t,prev:=(Ydc last s.len i:Int) }]:=by
 rw [Yft,Yft,List.take_succ_eq_append_getElem h,List.mapIdx_concat,List.length_take,Nat.min_eq_left (by omega)]
abbrev Yge:Yac:=⟨3,0,0,0,ByteArray.empty,false,ByteArray.empty,false,ByteArray.empty⟩
def Ygf (s:Sv) (M:DataW Value) (t:Int) (last:Nat) (ks:List ByteArray):List Yac:=if ks=[] then [] else Yft s M t last ks ++ [{ Yge with tx:=t,prev:=(Ydc last s.len ks.length:Int) }]
def Rd1 (W1:World) (s:Sv) (t:Int) (x:TxE) (M:DataW Value) (ks:List ByteArray) (i:Nat) (w:World):Prop:=∃ s' x',Ent s s' t x x' i (Yft s M t x.last (ks.take i))∧Yab W1 w s s'
def Rd2 (W1:World) (s:Sv) (t:Int) (x:TxE) (M:DataW Value) (ks:List ByteArray) (n i:Nat) (w:World):Prop:=∃ s' x',Yje s s' t x' n i (Ydi s.cont M (ks.take i)) (Ygf s M t x.last ks)∧(x'.H=x.H∧x'.nH=x.nH)∧Yab W1 w s s'
structure Com (W1:World) (s:Sv) (q:Nat) (md m:Ybh) (t:Int) (x:TxE) (ks:List ByteArray):Prop where
 lies:Yan W1 s
 good:Yar s
 held:Yao s q
 cap:Cap s
 made:Ya7 s md
 mt:s.mt t=some m
 ht:0≤t∧t<256
 hx:s.tx t=some x
 last:x.last≤s.len
 keys:Yfq m.M ks
 all:∀ k,k∈ks→Ybc x.H k=2
 room:s.len+ks.length+1≤391
 nrm:∀ k,(Yat m.M k).1=false→(Yat m.M k).2.size=0
theorem Com.ksz (C:Com W1 s q md m t x ks) {k:ByteArray} (hk:k∈ks):k.size≤8:=by
 have h1:=(C.keys.mem k).1 hk;rcases (C.made.cells t m C.mt).1 k with h2 | ⟨_,_,h2,_⟩
 ·rw [Maps.has_false_of_atKey h2] at h1;cases h1
 ·exact h2
theorem Com.look (C:Com W1 s q md m t x ks) {k:ByteArray} (hk:k∈ks) (hmt:s'.mt=s.mt) (h:Yan W s'):
 (Instr.lookup 138 (.map (some m.b)) (.string k) false).run prog W=.ok (.agg #[.bool (Yat m.M k).1,.string (Yat m.M k).2]) W:=
 Ys1 (h.comp (.madeOf t) m (by rw [hmt];exact C.mt)) (C.made.cells t m C.mt).1 k (by have:=C.ksz hk;omega)
theorem Com.get (C:Com W1 s q md m t x ks) {k:ByteArray} (hk:k∈ks) {i:Nat} (h:Rd1 W1 s t x m.M ks i W):
 Calls prog 289 #[.pointer (some ⟨s.kb,2,none⟩),.string k] W fun e w'=>e=.returned (.agg #[.bool (Yag (s.cont (Yae k)) k).1,.string (Yag (s.cont (Yae k)) k).2])∧Rd1 W1 s t x m.M ks i w':=by
 obtain ⟨s',x',h1,h2⟩:=h
 have K:=Yls h2.lies h2.good k (C.ksz hk)
 rw [h1.same.1,h1.cont] at K
 refine K.mono ?_
 rintro e w' ⟨e1,s2,p2,g2⟩
 exact ⟨e1,s2,x',h1.paged p2,h2.trans g2⟩
theorem Y1d (C:Com W1 s q md m t x ks) {k:ByteArray} (hk:k∈ks):(0≤(Yd2 s m.M k).kind∧(Yd2 s m.M k).kind<256)∧(0≤(Yd2 s m.M k).next∧(Yd2 s m.M k).next<65536)∧(Yd2 s m.M k).key.size≤8∧(Yd2 s m.M k).old.size≤12∧(Yd2 s m.M k).new.size≤12:=
 ⟨by simp [Yd2],by simp [Yd2],C.ksz hk,Yr0 (C.good.rise _ (Ycy k)).2.2 k,Ytc (C.made.cells t m C.mt).1 k⟩
theorem Com.enter (C:Com W1 s q md m t x ks) {i:Nat} (hi:i<ks.length) (h:Rd1 W1 s t x m.M ks i W):
 Calls prog 288 #[.pointer (some ⟨s.kb,0,none⟩),.int .i64 t,.agg (Yd2 s m.M ks[i]).cells] W fun r w'=>r=.returned (.tuple #[])∧Rd1 W1 s t x m.M ks (i+1) w':=by
 obtain ⟨s',x',h1,h2⟩:=h
 have hr:=C.room
 have hl:=h1.nums.1
 have he:=Y1d C (List.getElem_mem hi)
 have hx':s'.tx t=some x':=by rw [h1.tx];simp
 have hlx:=h1.last C.last
 have K:=Yki h2.lies h2.good (h1.held C.hx C.held) (by omega) t C.ht x' hx' (Yd2 s m.M ks[i]) ⟨he.1,C.ht,⟨by simp only;omega,by simp only;omega⟩,he.2.1,he.2.2.1,he.2.2.2.1,he.2.2.2.2⟩ (Yr1 _ _) (C.nrm _)
 rw [h1.same.1] at K
 refine K.mono ?_
 rintro r w' ⟨e1,v',g2,_⟩
 exact ⟨e1,_,_,by rw [Y1c _ _ _ _ _ _ hi];exact h1.enter _ v',h2.trans g2⟩
theorem Com.force (_C:Com W1 s q md m t x ks) (hne:ks≠[]) (h:∃ s' x' v',Ent s s' t x x' ks.length (Yft s m.M t x.last ks)∧Yab W1 W s (Ybr s' t x' Yge v')):
 Calls prog 287 #[.pointer (some ⟨s.kb,0,none⟩)] W fun r w'=>r=.returned (.tuple #[])∧Rd2 W1 s t x m.M ks (ks.length+1) 0 w':=by
 obtain ⟨s',x',v',h1,h2⟩:=h
 have h3:=h1.enter Yge v'
 have K:=Yn0 h2.lies h2.good (by show s'.ws ++ [_]≠[];simp)
 rw [h3.same.1] at K
 refine K.mono ?_
 rintro r w' ⟨e1,g2⟩
 refine ⟨e1,synced (Ybr s' t x' Yge v'),{ x' with last:=s'.len+1 },⟨?_,h3.tx,⟨h3.nums.1,h3.nums.2.1,h3.nums.2.2.1,h3.nums.2.2.2,?_⟩,⟨h3.same.1,h3.same.2.1,h3.same.2.2.1,h3.same.2.2.2.1⟩,?_⟩,⟨h3.xH.1,h3.xH.2.1⟩,h2.trans g2⟩
 ·exact h3.cont
 ·have:=h3.same.2.2.2.2
  show (Ybr s' t x' Yge v').mc.n=s.mc.n+0;rw [this];rfl
 ·rw [Ygf,if_neg hne];exact h3.log
theorem Com.set (C:Com W1 s q md m t x ks) {i:Nat} (hi:i<ks.length) (h:Rd2 W1 s t x m.M ks (ks.length+1) i W):
 Calls prog 80 #[.pointer (some ⟨s.kb,2,none⟩),.string ks[i],.agg #[.bool (Yat m.M ks[i]).1,.string (Yat m.M ks[i]).2]] W fun r w'=>r=.returned (.tuple #[])∧Rd2 W1 s t x m.M ks (ks.length+1) (i+1) w':=by
 obtain ⟨s',x',h1,hH,h2⟩:=h
 have hk:ks[i]∈ks:=List.getElem_mem hi
 obtain ⟨f1,f2,f3⟩:=Ys9 (c:=s.cont) m.M (fun n hn=>(C.good.rise n hn).1) (ks.take i)
 have hmc:=C.good.mcn
 have hn:=h1.nums
 have hfit:(Yaw (s'.cont (Yae ks[i])) ks[i] (Yat m.M ks[i]).1 (Yat m.M ks[i]).2).length≤4:=by
  rw [h1.cont];obtain ⟨L,l1,l2⟩:=C.cap _ (Ycy ks[i]);have hnd:=Yjb (Yfo (f1 _ (Ycy ks[i])) ks[i] (Yat m.M ks[i]).1 (Yat m.M ks[i]).2);rw [←List.length_map (f:=(·.1))];refine Nat.le_trans (hnd.length_le_of_subset fun k hk'=>?_) l1;obtain ⟨p,hp,rfl⟩:=List.mem_map.1 hk';have hheld:∀ k',k'∈ks→Yae k'=Yae ks[i]→k'∈L:=fun k' h3 h4=>l2 k' (.inr ⟨h4,t,x,C.hx,C.all k' h3⟩)
  rcases Yhk (f1 _ (Ycy ks[i])) _ _ _ hp with h3 | ⟨_,h3⟩
  ·rcases f2 _ (Ycy ks[i]) p h3 with h4 | ⟨h4,h5⟩
   ·exact l2 _ (.inl ⟨p,h4,rfl⟩)
   ·exact hheld _ (List.mem_of_mem_take h4) h5
  ·rw [h3];exact hheld _ hk rfl
 have K:=Ynx h2.lies h2.good ks[i] (C.ksz hk) (Yat m.M ks[i]).1 (Yat m.M ks[i]).2 (Ytc (C.made.cells t m C.mt).1 _) (by omega) hfit
 rw [h1.same.1,h1.cont] at K
 refine K.mono ?_
 rintro r w' ⟨e1,s1,p',hp,g2⟩
 obtain ⟨P,mm,rfl,hmm⟩:=hp
 refine ⟨e1,({ s' with pgs:=P,mp:=mm }:Sv).put (Yae ks[i]) p' (Yaw (Ydi s.cont m.M (ks.take i) (Yae ks[i])) ks[i] (Yat m.M ks[i]).1 (Yat m.M ks[i]).2),x',⟨?_,h1.tx,⟨hn.1,hn.2.1,hn.2.2.1,hn.2.2.2.1,?_⟩,h1.same,h1.log⟩,hH,h2.trans g2⟩
 ·rw [List.take_add_one,List.getElem?_eq_getElem hi]
  show (fun n=>if n=Yae ks[i] then Yaw (Ydi s.cont m.M (ks.take i) (Yae ks[i])) ks[i] (Yat m.M ks[i]).1 (Yat m.M ks[i]).2 else s'.cont n)=Ydi s.cont m.M (ks.take i ++ [ks[i]]);rw [Yoe,h1.cont];funext n;by_cases hb:n=Yae ks[i]
  ·simp only [hb,if_true]
  ·simp only [hb,if_false]
 ·show s'.mc.n+1=s.mc.n+(i+1)
  rw [hn.2.2.2.2];omega
theorem Com.fin (C:Com W1 s q md m t x ks) {n:Nat} (hn:n≤ks.length+1) (h:Rd2 W1 s t x m.M ks n ks.length W):
 Calls prog 284 #[.pointer (some ⟨s.kb,0,none⟩),.int .i64 t] W fun r w'=>r=.returned (.tuple #[])∧∃ s' md',Yfs s s' t (Ydi s.cont m.M ks) (ks.length+1) (Ygf s m.M t x.last ks)∧Ya7 s' md'∧Yab W1 w' s s'∧Yao s' q:=by
 obtain ⟨s',x',h1,hH,h2⟩:=h
 have ht:=C.ht
 have K:=Yn2 h2.lies h2.good (h1.held hH C.hx C.held) (h1.made C.made) t ⟨by omega,by omega⟩
 rw [h1.same.1] at K
 refine K.mono ?_
 rintro r w' ⟨e1,g2,k3,k4⟩
 refine ⟨e1,Ybv (Yb5 s' md t) t,_,⟨?_,?_,?_,⟨h1.nums.2.1,h1.nums.2.2.1,h1.same.1,h1.nums.2.2.2.1,?_,?_⟩,?_,h1.log⟩,k4,h2.trans g2,k3⟩
 ·rw [←List.take_length (l:=ks)];exact h1.cont
 ·funext u
  show (if u=t then none else s'.tx u)=_;by_cases hu:u=t
  ·rw [if_pos hu,if_pos hu]
  ·rw [if_neg hu,if_neg hu,h1.tx];simp [hu]
 ·funext u
  show (if u=t then none else s'.mt u)=_;rw [h1.same.2.2.2]
 ·show s'.mo.M.del _=_
  rw [h1.same.2.1]
 ·show s'.len≤_
  rw [h1.nums.1];omega
 ·show s.len≤s'.len
  rw [h1.nums.1];omega
theorem Com.row (_C:Com W1 s q md m t x ks) {g cap B:Nat} (hr:W1.ownsRow B 9 1 (.slice (some ⟨g,0,none⟩) ks.length cap) ks.length (ks.map Value.string)) (hn:∀ tag,s.blk tag≠some g) (h:Yab W1 W s s') (i:Nat) (hi:i<ks.length):W.cell? ⟨g,i,none⟩=some (.string ks[i]):=
 Yal (Yda hr (fun k hk=>by
  have:k=g:=by simpa [Value.ownBlock] using hk.symm
  subst this;exact h.off k (hr.lt k hk).2 hn)) (by simp [hi])
theorem Com.close (C:Com W1 s q md m t x ks) (h:Rd1 W1 s t x m.M ks ks.length W):
 Calls prog 288 #[.pointer (some ⟨s.kb,0,none⟩),.int .i64 t,.agg #[.int .i64 3,.int .i64 0,.int .i64 0,.int .i64 0,.string ByteArray.empty,.bool false,.string ByteArray.empty,.bool false,.string ByteArray.empty]] W fun r w'=>r=.returned (.tuple #[])∧∃ s' x' v',Ent s s' t x x' ks.length (Yft s m.M t x.last ks)∧Yab W1 w' s (Ybr s' t x' Yge v'):=by
 obtain ⟨s',x',h1,h2⟩:=h
 have hr:=C.room
 have hl:=h1.nums.1
 have hx':s'.tx t=some x':=by rw [h1.tx];simp
 have hlx:=h1.last C.last
 rw [List.take_length] at h1
 have K:=Yki h2.lies h2.good (h1.held C.hx C.held) (by omega) t C.ht x' hx' ⟨3,0,0,0,ByteArray.empty,false,ByteArray.empty,false,ByteArray.empty⟩ ⟨by simp,C.ht,⟨by simp only;omega,by simp only;omega⟩,by simp,by simp,by simp,by simp⟩ (fun _=>rfl) (fun _=>rfl)
 rw [h1.same.1] at K
 refine K.mono ?_
 rintro r w' ⟨e1,v',g2,_⟩
 exact ⟨e1,s',x',v',h1,h2.trans g2⟩
theorem Rd1.none (hks:ks=[]) (h:Rd1 W1 s t x M ks 0 W):Rd2 W1 s t x M ks 0 0 W:=by
 obtain ⟨s',x',h1,h2⟩:=h;refine ⟨s',x',⟨h1.cont,h1.tx,⟨h1.nums.1,h1.nums.2.1,h1.nums.2.2.1,h1.nums.2.2.2,?_⟩,⟨h1.same.1,h1.same.2.1,h1.same.2.2.1,h1.same.2.2.2.1⟩,by rw [Ygf,if_pos hks];exact h1.log⟩,⟨h1.xH.1,h1.xH.2.1⟩,h2⟩;rw [h1.same.2.2.2.2];rfl
theorem Y1e (h:Yan w s) (g:Yar s) (hh:Yao s q) (hc:Cap s) (hm:Ya7 s md) (t:Int) (ht:0≤t∧t<256) (x:TxE) (hx:s.tx t=some x) (hlast:x.last≤s.len) (hmt:s.mt t=some m) (hall:∀ k,Maps.has m.M (lit k)=true→Ybc x.H k=2) (hroom:s.len+m.n+1≤391) (hnr:∀ k,(Yat m.M k).1=false→(Yat m.M k).2.size=0):
 Calls prog 275 #[.pointer (some ⟨s.kb,0,none⟩),.int .i64 t] w fun e w'=>e=.returned (.tuple #[])∧∃ ks s' md',Yfq m.M ks∧Yfs s s' t (Ydi s.cont m.M ks) (ks.length+1) (Ygf s m.M t x.last ks)∧Ya7 s' md'∧Yab w w' s s'∧Yao s' q:=by
 have hti:Yax t:=⟨by omega,by omega⟩
 have c8:=Yi9 h hm
 have hlk:=Y1a h hm t hti hmt
 have hM:Yap w 9 m.b m.n m.M:=h.comp (.madeOf t) m hmt
 have hmn:=(hm.cells t m hmt).2
 have hac:=g.ac
 have hsz:Maps.size m.M≤m.n:=World.ownsMap.size_le hM
 have KK:Hid (Calls prog 110 #[.map (some m.b)] w fun e w'=>e=.returned (.func (.func 156) #[] #[.pointer (some ⟨w.heap.size,0,none⟩)])∧w'=w.alloc (.cells #[.map (some m.b)] 138)):=Yoc _ w
 have KS:=Yh (Ys0 hM (by omega))
 have HC:Hid (∀ W1 ks,Below w.heap.size w W1→Yfq m.M ks→Com W1 s q md m t x ks):=fun W1 ks hW hk=>⟨h.below hW,g,hh,hc,hm,hmt,ht,hx,hlast,hk,fun k hk'=>hall k ((hk.mem k).1 hk'),by rw [hk.len];omega,hnr⟩
 have HP:Hid (∀ q',w.heap.size≤q'→∀ tag,s.blk tag≠some q'):=fun q' hq' tag ht'=>by have:=h.lt tag _ ht';omega
 have HG:Hid (∀ W1,Below w.heap.size w W1→Yab w W1 s s∧Yab W1 W1 s s):=fun W1 hW=>⟨Yab.of_below h g hW,Yab.refl (h.below hW) g⟩
 have HKB:Hid (∀ W1 W s',Yab W1 W s s'→s'.made=s.made→s'.kb=s.kb→W.cell? ⟨s.kb,8,none⟩=some (.map (some md.b))):=fun W1 W s' hW h1 h2=>by
  have e1:s'.cells[8]? = some (.map (some md.b)):=by unfold Sv.cells;rw [h1,hm.made];rfl
  rw [←h2];exact Yaa (hW.lies.comp .kind) e1
 generalize hkb:s.kb=kb at c8
 clear h g hh hc hm hM hall hnr
 go_enter func275,ntmps275
 go_wp2_with (first
  | (go_at_call 110;go_must (
   refine KK.out.mono ?_;rintro e w0 ⟨rfl,rfl⟩))
  | (go_at_call 109;go_must (
   refine KS.out.mono ?_;rintro e w1 ⟨v,ks,rfl,hks,hrow,hb1⟩;obtain ⟨p,cap,rfl,hmax⟩:=Ya6 hrow;have HKS:=Yh hks;have HROW:=Yh hrow;have HB1:=Yh hb1;have hkl:ks.length≤120:=by rw [hks.len];omega
   have HCM:Hid (Com w1 s q md m t x ks):=HC.out w1 ks hb1 hks;clear hks hrow hb1 hmax)))
 go_loopw [21] (fun i wr=>∃ k:Nat,k≤ks.length∧i=.int .i64 k∧Rd1 w1 s t x m.M ks k wr) (fun i _=>ks.length - (intOf i).toNat)
 case atStart=>exact ⟨0,by omega,rfl,s,x,Ent.refl hx,(HG.out w1 HB1.out).2⟩
 case round=>
  obtain ⟨k,hk,rfl,hrd⟩:=hrel;have HRD:=Yh hrd;clear hrd;by_cases hlt:k<ks.length
  ·have hlt':(k:Int)<(ks.length:Int):=by omega
   obtain ⟨gb,cap',he⟩:=Ybn HROW.out (by omega);simp only [Value.slice.injEq] at he;obtain ⟨rfl,-,rfl⟩:=he;have hgb:=(HROW.out.lt gb rfl).1;have c0:wr.cell? ⟨gb,k,none⟩=some (.string ks[k]):=by
    obtain ⟨s',x',_,h2⟩:=HRD.out;exact HCM.out.row HROW.out (HP.out gb hgb) h2 k hlt
   have hmem:ks[k]∈ks:=List.getElem_mem hlt;have KG:Hid (∀ W,Rd1 w1 s t x m.M ks k W→Calls prog 289 #[.pointer (some ⟨kb,2,none⟩),.string ks[k]] W fun e w'=>e=.returned (.agg #[.bool (Yag (s.cont (Yae ks[k])) ks[k]).1,.string (Yag (s.cont (Yae ks[k])) ks[k]).2])∧Rd1 w1 s t x m.M ks k w'):=fun W hW=>by rw [←hkb];exact HCM.out.get hmem hW
   have KE:Hid (∀ W,Rd1 w1 s t x m.M ks k W→Calls prog 288 #[.pointer (some ⟨kb,0,none⟩),.int .i64 t,.agg (Yd2 s m.M ks[k]).cells] W fun e w'=>e=.returned (.tuple #[])∧Rd1 w1 s t x m.M ks (k+1) w'):=fun W hW=>by rw [←hkb];exact HCM.out.enter hlt hW
   have HLK:Hid (∀ W i,Rd1 w1 s t x m.M ks i W→(Instr.lookup 138 (.map (some m.b)) (.string ks[k]) false).run prog W=.ok (.agg #[.bool (Yat m.M ks[k]).1,.string (Yat m.M ks[k]).2]) W):=fun W i ⟨s',x',h1,h2⟩=>HCM.out.look hmem h1.same.2.2.2.1 h2.lies
   have hl0:=HLK.out wr k HRD.out;have HDR:Hid (Rd1 w1 s t x m.M ks k wr.drew):=by obtain ⟨s',x',h1,h2⟩:=HRD.out;exact ⟨s',x',h1,h2.drew⟩
   have hl1:=HLK.out wr.drew k HDR.out;simp only [Yd2,Yac.cells] at KE;generalize Yag (s.cont (Yae ks[k])) ks[k]=un at KG KE;generalize Yat m.M ks[k]=cn at KE HLK hl0 hl1;generalize ks[k]=kk at c0 KG KE HLK hl0 hl1;obtain ⟨ui,us⟩:=un;obtain ⟨ci,cs⟩:=cn;simp only at KG KE HLK hl0 hl1;go_wp2;go_region_held3 (fun w'=>(Instr.lookup 138 (.map (some m.b)) (.string kk) false).run prog w'=.ok (.agg #[.bool ci,.string cs]) w')
    (go_keep)
    (first
     | (go_at_call 289;go_must (
      refine (KG.out _ HDR.out).mono ?_;rintro e w2 ⟨rfl,hr2⟩;have HR2:=Yh hr2;have hl2:=HLK.out w2 k hr2;clear hr2))
     | (go_at_call 288;go_must (
      refine (KE.out _ HR2.out).mono ?_;rintro e w3 ⟨rfl,hr3⟩;have HR3:=Yh hr3;have hl3:=HLK.out w3 (k+1) hr3;clear hr3)))
   all_goals
    go_wp2;exact ⟨⟨k+1,by omega,by simp,HR3.out⟩,by simp [intOf];omega⟩
  ·obtain rfl:k=ks.length:=by omega
   have KC:Hid (Calls prog 288 #[.pointer (some ⟨kb,0,none⟩),.int .i64 t,.agg #[.int .i64 3,.int .i64 0,.int .i64 0,.int .i64 0,.string ByteArray.empty,.bool false,.string ByteArray.empty,.bool false,.string ByteArray.empty]] wr fun r w'=>r=.returned (.tuple #[])∧∃ s' x' v',Ent s s' t x x' ks.length (Yft s m.M t x.last ks)∧Yab w1 w' s (Ybr s' t x' Yge v')):=by rw [←hkb];exact HCM.out.close HRD.out
   have KF:Hid (∀ W,ks≠[]∧(∃ s' x' v',Ent s s' t x x' ks.length (Yft s m.M t x.last ks)∧Yab w1 W s (Ybr s' t x' Yge v'))→Calls prog 287 #[.pointer (some ⟨kb,0,none⟩)] W fun r w'=>r=.returned (.tuple #[])∧Rd2 w1 s t x m.M ks (ks.length+1) 0 w'):=fun W hW=>by rw [←hkb];exact HCM.out.force hW.1 hW.2
   have KZ:Hid (∀ W n,n≤ks.length+1→Rd2 w1 s t x m.M ks n ks.length W→Calls prog 284 #[.pointer (some ⟨kb,0,none⟩),.int .i64 t] W fun r w'=>r=.returned (.tuple #[])∧∃ s' md',Yfs s s' t (Ydi s.cont m.M ks) (ks.length+1) (Ygf s m.M t x.last ks)∧Ya7 s' md'∧Yab w1 w' s s'∧Yao s' q):=fun W n hn hW=>by rw [←hkb];exact HCM.out.fin hn hW
   have HFIN:Hid (∀ w',(∃ s' md',Yfs s s' t (Ydi s.cont m.M ks) (ks.length+1) (Ygf s m.M t x.last ks)∧Ya7 s' md'∧Yab w1 w' s s'∧Yao s' q)→∃ ks s' md',Yfq m.M ks∧Yfs s s' t (Ydi s.cont m.M ks) (ks.length+1) (Ygf s m.M t x.last ks)∧Ya7 s' md'∧Yab w w' s s'∧Yao s' q):=fun w' ⟨s',md',h1,h2,h3,h4⟩=>⟨ks,s',md',HKS.out,h1,h2,(HG.out w1 HB1.out).1.trans h3,h4⟩
   by_cases h0:ks.length=0
   ·have HR0:Hid (Rd2 w1 s t x m.M ks 0 ks.length wr):=by
     have:=HRD.out;rw [h0] at this ⊢;exact Rd1.none (List.length_eq_zero_iff.1 h0) this
    have h0':(ks.length:Int)=0:=by omega
    have hgt:¬(0:Int)<(ks.length:Int):=by omega
    clear KC KF;go_wp2;go_loopw [58] (fun i w2=>i=.int .i64 0∧w2=wr) (fun _ _=>0)
    case atStart=>exact ⟨rfl,rfl⟩
    case round=>
     obtain ⟨rfl,rfl⟩:=hrel;go_wp2_with (first
      | (go_at_call 284;go_must (
       refine (KZ.out _ 0 (by omega) HR0.out).mono ?_;rintro e w3 ⟨rfl,hp⟩;have HX:=Yh (HFIN.out w3 hp);clear hp)))
     go_end0;exact ⟨rfl,HX.out⟩
   ·have hgt:(0:Int)<(ks.length:Int):=by omega
    go_wp2_with (first
     | (go_at_call 288;go_must (
      refine KC.out.mono ?_;rintro e w2 ⟨rfl,hr2⟩;have HR2:=Yh hr2;clear hr2))
     | (go_at_call 287;go_must (
      refine (KF.out w2 ⟨(fun e=>h0 (by rw [e];rfl)),HR2.out⟩).mono ?_;rintro e w3 ⟨rfl,hr3⟩;have HR3:=Yh hr3;clear hr3)))
    clear KC KF;go_loopw [58] (fun i wz=>∃ k:Nat,k≤ks.length∧i=.int .i64 k∧Rd2 w1 s t x m.M ks (ks.length+1) k wz) (fun i _=>ks.length - (intOf i).toNat)
    case atStart=>exact ⟨0,by omega,rfl,HR3.out⟩
    case round=>
     obtain ⟨k,hk,rfl,hrd⟩:=hrel;have HRZ:=Yh hrd;clear hrd;by_cases hlt:k<ks.length
     ·have hlt':(k:Int)<(ks.length:Int):=by omega
      obtain ⟨gb,cap',he⟩:=Ybn HROW.out (by omega);simp only [Value.slice.injEq] at he;obtain ⟨rfl,-,rfl⟩:=he;have hgb:=(HROW.out.lt gb rfl).1;have c0:wr.cell? ⟨gb,k,none⟩=some (.string ks[k]):=by
       obtain ⟨s',x',_,_,h2⟩:=HRZ.out;exact HCM.out.row HROW.out (HP.out gb hgb) h2 k hlt
      have hmem:ks[k]∈ks:=List.getElem_mem hlt;have HDR:Hid (Rd2 w1 s t x m.M ks (ks.length+1) k wr.drew):=by obtain ⟨s',x',h1,h2,h3⟩:=HRZ.out;exact ⟨s',x',h1,h2,h3.drew⟩
      have KS2:Hid (Calls prog 80 #[.pointer (some ⟨kb,2,none⟩),.string ks[k],.agg #[.bool (Yat m.M ks[k]).1,.string (Yat m.M ks[k]).2]] wr.drew fun e w'=>e=.returned (.tuple #[])∧Rd2 w1 s t x m.M ks (ks.length+1) (k+1) w'):=by rw [←hkb];exact HCM.out.set hlt HDR.out
      have HLK:Hid (∀ W i,Rd2 w1 s t x m.M ks (ks.length+1) i W→(Instr.lookup 138 (.map (some m.b)) (.string ks[k]) false).run prog W=.ok (.agg #[.bool (Yat m.M ks[k]).1,.string (Yat m.M ks[k]).2]) W):=fun W i ⟨s',x',h1,_,h2⟩=>HCM.out.look hmem h1.same.2.2.2 h2.lies
      have hl0:=HLK.out wr k HRZ.out;have hl1:=HLK.out wr.drew k HDR.out;generalize Yat m.M ks[k]=cn at KS2 HLK hl0 hl1;generalize ks[k]=kk at c0 KS2 HLK hl0 hl1;obtain ⟨ci,cs⟩:=cn;simp only at KS2 HLK hl0 hl1;go_wp2;go_region_held3 (fun w'=>(Instr.lookup 138 (.map (some m.b)) (.string kk) false).run prog w'=.ok (.agg #[.bool ci,.string cs]) w')
       (go_keep)
       (first
        | (go_at_call 80;go_must (
         refine KS2.out.mono ?_;rintro e w5 ⟨rfl,hr5⟩;have HR5:=Yh hr5;have hl5:=HLK.out w5 (k+1) hr5;clear hr5)))
      all_goals
       go_wp2;exact ⟨⟨k+1,by omega,by simp,HR5.out⟩,by simp [intOf];omega⟩
     ·obtain rfl:k=ks.length:=by omega
      go_wp2_with (first
       | (go_at_call 284;go_must (
        refine (KZ.out _ _ (Nat.le_refl _) HRZ.out).mono ?_;rintro e w6 ⟨rfl,hp⟩;have HX:=Yh (HFIN.out w6 hp);clear hp)))
      go_end0;exact ⟨rfl,HX.out⟩
def isZ:Value→Bool
 | .int .u8 0=>true
 | _=>false
theorem Y1f {v:Value} (h:isZ v=true):v=.int .u8 0:=by
 unfold isZ at h;split at h
 ·rfl
 ·cases h
theorem Y1g:(Tryz.zeroCells103.toList.take 27776).all isZ=true:=by kernel_rfl
theorem Ytd (i:Nat) (h:i<27776):Tryz.zeroCells103[i]? = some (.int .u8 0):=by
 have hz:=Ymx;have h1:i<Tryz.zeroCells103.size:=by omega
 have h2:=List.all_eq_true.1 Y1g;have h3:(Tryz.zeroCells103.toList.take 27776)[i]? = Tryz.zeroCells103[i]?:=by rw [List.getElem?_take,if_pos h,Array.getElem?_toList]
 have h4:Tryz.zeroCells103[i]? = some Tryz.zeroCells103[i]:=Array.getElem?_eq_getElem h1;rw [h4] at h3 ⊢;rw [Y1f (h2 _ (List.mem_of_getElem? h3))]
structure Yhm (D:Array Value):Prop where
 size:D.size=27779
 dv:D[27776]? = some (.slice none 0 0)
 fuse:D[27777]? = some (.int .i64 0)
 byte:∀ i u,i<27776→D[i]? = some u→Ycm u
 zero:∀ i,128≤i→i<27776→D[i]? = some (.int .u8 0)
theorem Yte (mode:Int):(Yam 1 1 (Yei 1 mode)).length=64:=Yeh _ _ _ (by simp [Yei,Yeq])
theorem Y1h (mode:Int) (Z:Array Value) (hz:Z.size=27779) (hf:Z[27777]? = some (.int .i64 0)) (ha:∀ i,i<27776→Z[i]? = some (.int .u8 0)):Yhm ((Ycg Z 64 (Yam 1 1 (Yei 1 mode))).setIfInBounds 27776 (.slice none 0 0)) where
 size:=by rw [Array.size_setIfInBounds,Yip];exact hz
 dv:=Array.getElem?_setIfInBounds_self_of_lt (by rw [Yip,hz];omega)
 fuse:=by
  rw [Array.getElem?_setIfInBounds_ne (by omega),Yf3,if_neg (by rw [Yte];omega)];exact hf
 byte:=fun i u h hu=>by
  rw [Array.getElem?_setIfInBounds_ne (by omega),Yf3] at hu;split at hu
  ·exact Ylt _ _ _ (fun u hu=>by rcases List.mem_append.1 hu with h | h <;> exact Ygp _ _ u h) u (List.mem_of_getElem? hu)
  ·rw [ha i h] at hu
   simp only [Option.some.injEq] at hu;subst hu;exact ⟨0,rfl,by omega⟩
 zero:=fun i h h'=>by
  rw [Array.getElem?_setIfInBounds_ne (by omega),Yf3,if_neg (by rw [Yte];omega)];exact ha i h'
theorem Yhm.read {D:Array Value} (hD:Yhm D) (a:Nat) (h:2≤a) (h':a<434):Yay D [] a=List.replicate 64 (.int .u8 0):=by
 unfold Yay;simp only [List.reverse_nil,List.find?_nil];apply List.ext_getElem?;intro i;rw [Array.getElem?_toList,Array.getElem?_extract,hD.size];by_cases hi:i<64
 ·rw [if_pos (by omega),hD.zero _ (by omega) (by omega),List.getElem?_replicate,if_pos hi]
 ·rw [if_neg (by omega),List.getElem?_replicate,if_neg hi]
def Yd3:Ybq:=⟨0,0,ByteArray.empty,ByteArray.empty,ByteArray.empty,ByteArray.empty,ByteArray.empty,ByteArray.empty,ByteArray.empty,ByteArray.empty⟩
theorem Y1i:Yam 0 0 (Ybz ByteArray.empty ByteArray.empty ByteArray.empty ByteArray.empty)=List.replicate 64 (.int .u8 0):=by kernel_rfl
theorem Yhm.page {D:Array Value} (hD:Yhm D) (n:Nat) (hn:n<8):Ykc D [] n Yd3 Yd3:=by
 have hf:Yd3.Fits:=⟨by simp [Yd3],by simp [Yd3],by simp [Yd3],by simp [Yd3],by simp [Yd3],by simp [Yd3],by simp [Yd3],by simp [Yd3],by simp [Yd3]⟩;have hr:∀ a,2≤a→a<434→Yay D [] a=Yam 0 0 (Ybz ByteArray.empty ByteArray.empty ByteArray.empty ByteArray.empty):=fun a h1 h2=>by rw [hD.read a h1 h2,Y1i]
 exact ⟨⟨hr _ (by omega) (by omega),hr _ (by omega) (by omega)⟩,⟨hr _ (by omega) (by omega),hr _ (by omega) (by omega)⟩,hf,hf⟩
def Ygg:Yac:=⟨0,0,0,0,ByteArray.empty,false,ByteArray.empty,false,ByteArray.empty⟩
theorem Y1j:Yam 0 0 Ygg.body=List.replicate 64 (.int .u8 0):=by kernel_rfl
theorem Y1k {D:Array Value} {ws:List (Nat×List Value)} {i:Nat} (h:Yay D ws (34+i)=List.replicate 64 (.int .u8 0)):Yf8 D ws i 0 0 Ygg:=
 ⟨by rw [Y1j];exact h,by omega,by omega,by omega,by omega,⟨by simp [Ygg],by simp [Ygg],by simp [Ygg],by simp [Ygg],by simp [Ygg],by simp [Ygg],by simp [Ygg]⟩,fun _=>rfl,fun _=>rfl⟩
def Ycr (D:Array Value) (ty:TypeId) (kb vb db mp mc mo:Nat) (made:Option Ybh):Sv:=
 { kb:=kb,vb:=vb,db:=db,ty:=ty,start:=1,count:=1,turn:=1,len:=0,begun:=0,acts:=0,D:=D,ws:=[],v:=.slice none 0 0,mp:=⟨mp,0,.map []⟩,mc:=⟨mc,0,.map []⟩,mo:=⟨mo,0,.map []⟩,made:=made,pgs:=fun _=>none,cont:=fun _=>[],tx:=fun _=>none,mt:=fun _=>none,log:=[],cp:=fun _=>(Yd3,Yd3) }
theorem Y1l {D:Array Value} (hD:Yhm D) (ty:TypeId) (kb vb db mp mc mo:Nat) (made:Option Ybh):Yar (Ycr D ty kb vb db mp mc mo made):=
 {
  dsz:=hD.size,dv:=hD.dv,fuse:=hD.fuse
  ok:=fun p hp=>(List.not_mem_nil hp).elim
  wn:=Nat.zero_le _
  ln:=Nat.zero_le _
  db:=hD.byte
  wb:=fun p hp=>(List.not_mem_nil hp).elim
  have':=fun n p _ h=>by cases h
  lack:=fun n _ _ zd=>Maps.atKey_of_not_has (by simp [Ycr,Maps.has_eq]) zd
  room:=by simp [Ycr,Yfm]
  load:=fun n hn=>⟨hD.page n hn,(fun p hp=>by cases hp),fun _=>by kernel_rfl,(fun hc=>by simp [Sv.chg,Ycr,Maps.has_eq] at hc),.inl (by simp [Ycr,Yd3]),.inl (by simp [Ycr,Yd3])⟩
  chk:=fun kl hkl=>by simp [Ycr,Maps.has_eq] at hkl
  logd:=⟨rfl,fun i hi=>(Nat.not_lt_zero i hi).elim,fun i _ hi4=>⟨0,0,Ygg,Y1k (hD.read _ (by omega) (by omega)),by simp [Ycr]⟩⟩
  wl:=⟨0,Nat.le_refl _,rfl⟩
  rise:=fun n _=>⟨fun i j hi=>(Nat.not_lt_zero i hi).elim,Nat.zero_le _,fun p hp=>(List.not_mem_nil hp).elim⟩
  st:=⟨by simp [Ycr],by simp [Ycr]⟩
  ct:=⟨by simp [Ycr],by simp [Ycr]⟩
  ac:=Nat.zero_le _
  mon:=Nat.le_refl _
  mcn:=Nat.le_refl _
  isOpen:=fun t x h=>by cases h
  notOpen:=fun t _ zd=>Maps.atKey_of_not_has (by simp [Ycr,Maps.has_eq]) zd }
theorem Ytf (p:Option Addr) (w:World):
 Calls prog 147 #[.pointer p] w fun e w'=>e=.returned (.agg #[.pointer p,.int .i64 0,.pointer p,.map (some (w.heap.size+1+1)),
  .map (some (w.heap.size+1+1+1)),.map (some (w.heap.size+1+1+1+1)),.int .i64 0,.int .i64 0]) ∧
  Below w.heap.size w w'∧w'.heap.size=w.heap.size+5∧w'.heap[w.heap.size+1+1]? = some (.map #[] 0)∧w'.heap[w.heap.size+1+1+1]? = some (.map #[] 0)∧w'.heap[w.heap.size+1+1+1+1]? = some (.map #[] 0):=by
 have hmm:=@run_makeMap prog
 go_enter func147,ntmps147
 go_wp2_with (first | (go_at_call 77;refine (Yvg _ _).mono ?_;rintro e w' ⟨rfl,rfl⟩))
 refine bodyPost_ret (v:=.agg #[.pointer p,.int .i64 0,.pointer p,.map (some (w.heap.size+1+1)),
  .map (some (w.heap.size+1+1+1)),.map (some (w.heap.size+1+1+1+1)),.int .i64 0,.int .i64 0]) (by simp [results,Tryz.results147,go_sem]) rfl ⟨rfl,?_,?_,?_,?_,?_⟩
 ·exact (((((Below.refl _ _).alloc (Nat.le_refl _) _).alloc (by simp) _).alloc (by simp;omega) _).alloc (by simp;omega) _).alloc (by simp;omega) _
 ·simp
 ·rw [Below.heap_alloc _ _ _ (by simp),Below.heap_alloc _ _ _ (by simp)]
  show (Array.push _ _)[_]? = _;rw [Array.getElem?_push,if_pos (by simp)]
 ·rw [Below.heap_alloc _ _ _ (by simp)]
  show (Array.push _ _)[_]? = _;rw [Array.getElem?_push,if_pos (by simp)]
 ·show (Array.push _ _)[_]? = _
  rw [Array.getElem?_push,if_pos (by simp)]
structure Yjf (w':World) (N:Nat) (vb:Nat) (k:Bool) (kb:Nat):Prop where
 mp:w'.heap[N+2]? = some (.map #[] 0)
 mc:w'.heap[N+3]? = some (.map #[] 0)
 mo:w'.heap[N+4]? = some (.map #[] 0)
 md:k=false→w'.heap[N+5]? = some (.map #[] 0)
 place:kb=if k then N+5 else N+6
 kind:w'.heap[kb]? = some (.cells (#[.pointer (some ⟨vb,0,none⟩),.int .i64 0,.pointer (some ⟨vb,0,none⟩),.map (some (N+2)),.map (some (N+3)),.map (some (N+4)),.int .i64 0,.int .i64 0] ++ (if k then #[] else #[.map (some (N+5))])) (if k then 236 else 233) (0,0))
theorem Y1m (vb:Nat) (w:World):
 Calls prog 102 #[.int .i64 0,.pointer (some ⟨vb,0,none⟩)] w fun e w'=>e=.returned (.iface 234 (.pointer (some ⟨w.heap.size+5,0,none⟩)))∧Below w.heap.size w w'∧Yjf w' w.heap.size vb true (w.heap.size+5):=by
 have hmm:=@run_makeMap prog
 go_enter func102,ntmps102
 go_wp2_with (first | (go_at_call 147;refine (Ytf _ _).mono ?_;rintro e w' ⟨rfl,hb,hs,h1,h2,h3⟩))
 go_ret
 refine ⟨rfl,hb.alloc (by omega) _,⟨?_,?_,?_,(fun h=>by cases h),rfl,?_⟩⟩
 ·rw [Below.heap_alloc _ _ _ (by omega)];exact h1
 ·rw [Below.heap_alloc _ _ _ (by omega)];exact h2
 ·rw [Below.heap_alloc _ _ _ (by omega)];exact h3
 ·show (Array.push _ _)[_]? = _
  rw [Array.getElem?_push,if_pos (by omega)];rfl
theorem Y1n (vb:Nat) (w:World):
 Calls prog 102 #[.int .i64 1,.pointer (some ⟨vb,0,none⟩)] w fun e w'=>e=.returned (.iface 224 (.pointer (some ⟨w.heap.size+6,0,none⟩)))∧Below w.heap.size w w'∧Yjf w' w.heap.size vb false (w.heap.size+6):=by
 have hmm:=@run_makeMap prog
 go_enter func102,ntmps102
 go_wp2_with (first | (go_at_call 147;refine (Ytf _ _).mono ?_;rintro e w' ⟨rfl,hb,hs,h1,h2,h3⟩))
 go_ret
 refine ⟨rfl,(hb.alloc (by omega) _).alloc (by simp;omega) _,⟨?_,?_,?_,fun _=>?_,rfl,?_⟩⟩
 ·rw [Below.heap_alloc _ _ _ (by simp;omega),Below.heap_alloc _ _ _ (by omega)];exact h1
 ·rw [Below.heap_alloc _ _ _ (by simp;omega),Below.heap_alloc _ _ _ (by omega)];exact h2
 ·rw [Below.heap_alloc _ _ _ (by simp;omega),Below.heap_alloc _ _ _ (by omega)];exact h3
 ·rw [Below.heap_alloc _ _ _ (by simp;omega)]
  show (Array.push _ _)[_]? = _;rw [Array.getElem?_push,if_pos (by omega)]
 ·show (Array.push _ _)[_]? = _
  rw [Array.getElem?_push,if_pos (by simp;omega)];rfl
theorem Y1o {D:Array Value} {N vb:Nat} (k:Bool) (hk:Yjf w N vb k kb) (hv:w.heap[vb]? = some (.cells (Ybl db 1 1 1) 126 (0,0))) (hd:w.heap[db]? = some (.cells D 103 (0,0))) (h1:db<vb) (h2:vb<N):
 Yan w (Ycr D (if k then 236 else 233) kb vb db (N+2) (N+3) (N+4) (if k then none else some ⟨N+5,0,.map []⟩)):=by
 have hp:=hk.place
 refine ⟨fun tag=>?_,fun a b q ha hb=>?_,fun tag q hq=>?_⟩
 ·cases tag using Tag.elim with
  | kind=>
   refine hk.kind.trans ?_
   cases k <;> rfl
  | vol=>exact hv
  | disk=>exact hd
  | uns=>exact World.ownsRow_nil _ _ _ _
  | mp=>exact Ykf hk.mp
  | mc=>exact Ykf hk.mc
  | mo=>exact Ykf hk.mo
  | made=>
   intro m hm
   cases k with
   | true=>cases hm
   | false=>
    simp [Ycr] at hm;subst hm;exact Ykf (hk.md rfl)
  | page n=>intro p hp';cases hp'
  | row n=>intro p hp';cases hp'
  | tx t=>intro p hp';cases hp'
  | held t=>intro p hp';cases hp'
  | madeOf t=>intro p hp';cases hp'
 ·cases k
  ·simp only [Bool.false_eq_true,if_false] at hp
   subst hp
   cases a using Tag.elim <;> simp [Ycr,Value.ownBlock] at ha <;> cases b using Tag.elim <;> simp [Ycr,Value.ownBlock] at hb <;> first | rfl | omega
  ·simp only [if_true] at hp
   subst hp
   cases a using Tag.elim <;> simp [Ycr,Value.ownBlock] at ha <;> cases b using Tag.elim <;> simp [Ycr,Value.ownBlock] at hb <;> first | rfl | omega
 ·have l1:=Yaj hk.kind
  have l2:=Yaj hk.mo;have l3:=Yaj hk.mp;have l4:=Yaj hk.mc;have l5:=Yaj hv;have l6:=Yaj hd
  cases k
  ·have l7:=Yaj (hk.md rfl)
   cases tag using Tag.elim <;> simp [Ycr,Value.ownBlock] at hq <;> omega
  ·cases tag using Tag.elim <;> simp [Ycr,Value.ownBlock] at hq <;> omega
structure Yfc (w w':World) (db:Nat) (k:Bool) (kb:Nat):Prop where
 ex:∃ D vb mp mc mo made,Yhm D∧Yan w' (Ycr D (if k then 236 else 233) kb vb db mp mc mo made)∧(if k then made=none else ∃ m,made=some ⟨m,0,.map []⟩)∧∀ tag q,(Ycr D (if k then 236 else 233) kb vb db mp mc mo made).blk tag=some q→q=db∨w.heap.size≤q
 off:∀ q,q<w.heap.size→q≠db→w'.heap[q]? = w.heap[q]?
 below:Below 0 w w'
theorem Ytg {D:Array Value} (k:Bool) (mode:Int) (hz:D.size=27779) (hf:D[27777]? = some (.int .i64 0)) (ha:∀ i,i<27776→D[i]? = some (.int .u8 0)) (hdb:db<w.heap.size)
 (hv1:w1.heap[w.heap.size]? = some (.cells (Ybl db 1 (0+1) (1 - 0)) 126 (0,0))) (hd1:w1.heap[db]? = some (.cells ((Ycg D ((1 - 0:Int).toNat*64) (Yam 1 (0+1) (Yei 1 mode))).setIfInBounds 27776 (.slice none 0 0)) 103 (0,0)))
 (ho:∀ q,q<(w.alloc (.cells (Ybl db 1 0 0) 126)).heap.size→q≠w.heap.size→q≠db→w1.heap[q]? = (w.alloc (.cells (Ybl db 1 0 0) 126)).heap[q]?) (hb1:Below 0 (w.alloc (.cells (Ybl db 1 0 0) 126)) w1)
 (hb2:Below w1.heap.size w1 w2) (hk:Yjf w2 w1.heap.size w.heap.size k kb):Yfc w w2 db k kb:=by
 have hs1:w.heap.size<w1.heap.size:=Yaj hv1
 have hp:=hk.place
 refine ⟨⟨_,w.heap.size,_,_,_,_,Y1h mode D hz hf ha,Y1o k hk ((hb2.block _ hs1).trans hv1) ((hb2.block _ (by omega)).trans hd1) hdb hs1,?_,?_⟩,fun q h1 h2=>?_,((Below.refl _ w).alloc (Nat.zero_le _) _).trans (hb1.trans (hb2.mono (Nat.zero_le _)))⟩
 ·cases k
  ·exact ⟨_,rfl⟩
  ·rfl
 ·intro tag q hq
  cases k
  ·simp only [Bool.false_eq_true,if_false] at hp
   cases tag using Tag.elim <;> simp [Ycr,Value.ownBlock] at hq <;> omega
  ·simp only [if_true] at hp
   cases tag using Tag.elim <;> simp [Ycr,Value.ownBlock] at hq <;> omega
 ·rw [hb2.block q (by omega),ho q (by simp;omega) (by omega) h2]
  exact Below.heap_alloc _ _ _ h1
structure Yhn (w w':World) (a:Nat) (k:Bool) (s:Sv):Prop where
 live:Yc5 w' a (Yb8 k) s 0
 plain:∃ D ty kb vb db mp mc mo made,Yhm D∧s=Ycr D ty kb vb db mp mc mo made∧(if k then made=none else ∃ m,made=some ⟨m,0,.map []⟩)
 new:w.heap.size≤a∧∀ tag q,s.blk tag=some q→w.heap.size≤q
theorem Yth (D:Array Value) (ty:TypeId) (kb vb db mp mc mo:Nat) (made:Option Ybh):Yao (Ycr D ty kb vb db mp mc mo made) 0∧Cap (Ycr D ty kb vb db mp mc mo made):=by
 refine ⟨(fun t x h=>by cases h),fun n _=>⟨[],Nat.zero_le _,fun k hk=>?_⟩⟩;rcases hk with ⟨p,hp,_⟩ | ⟨_,t,x,hx,_⟩
 ·cases hp
 ·cases hx
theorem Yti {o o':Obj} {x0 x1:Value} (k:Bool) (h:Yfc (w.alloc o) w1 w.heap.size k kb) (ho:o'=.cells #[x0,x1,.iface (Yb8 k) (.pointer (some ⟨kb,0,none⟩))] 90):
 ∃ s,Below w.heap.size w (w1.alloc o')∧Yhn w (w1.alloc o') w1.heap.size k s:=by
 obtain ⟨⟨D,vb,mp,mc,mo,made,h1,h2,h3,h4⟩,h5,h6⟩:=h
 have hs:=h6.size
 simp at hs
 have hb:Below w.heap.size w w1:=⟨h6.os,h6.tape,h6.output,by omega,fun q hq=>(h5 q (by simp;omega) (by omega)).trans (Below.heap_alloc _ _ _ hq)⟩
 have hb1:Below w1.heap.size w1 (w1.alloc o'):=(Below.refl _ w1).alloc (Nat.le_refl _) _
 refine ⟨_,hb.trans (hb1.mono (by omega)),⟨h2.below hb1,Y1l h1 _ _ _ _ _ _ _ _,(Yth D _ _ _ _ _ _ _ _).1,(Yth D _ _ _ _ _ _ _ _).2,by simp,fun tag ht=>?_,?_⟩,⟨D,_,_,_,_,_,_,_,_,h1,rfl,h3⟩,by omega,fun tag q hq=>?_⟩
 ·have:=h2.lt tag _ ht;omega
 ·rw [ho];exact Yaa (j:=2) (heap_alloc_new w1 _) rfl
 ·rcases h4 tag q hq with e | e
  ·omega
  ·simp at e;omega
theorem Y1p (db:Nat) (D:Array Value) (w:World) (hD:w.heap[db]? = some (.cells D 103 (0,0))) (hDz:D.size=27779) (hDv:D[27776]? = some (.slice none 0 0)) (hDf:D[27777]? = some (.int .i64 0)) (ha:∀ i,i<27776→D[i]? = some (.int .u8 0)):
 Calls prog 67 #[.int .i64 0,.pointer (some ⟨db,0,none⟩)] w fun e w'=>∃ kb,e=.returned (.iface 234 (.pointer (some ⟨kb,0,none⟩)))∧Yfc w w' db true kb:=by
 have hdw:db<w.heap.size:=Yaj hD
 have KS:Hid (Calls prog 82 #[.int .i64 0,.pointer (some ⟨w.heap.size,0,none⟩)] (w.alloc (.cells (Ybl db 1 0 0) 126)) fun e w'=>∃ kb,e=.returned (.iface 234 (.pointer (some ⟨kb,0,none⟩)))∧Yfc w w' db true kb):=by
  have hv:(w.alloc (.cells (Ybl db 1 0 0) 126)).heap[w.heap.size]? = some (.cells (Ybl db 1 0 0) 126 (0,0)):=heap_alloc_new w _;have hd:(w.alloc (.cells (Ybl db 1 0 0) 126)).heap[db]? = some (.cells D 103 (0,0)):=(Below.heap_alloc _ _ _ hdw).trans hD;have c1:(w.alloc (.cells (Ybl db 1 0 0) 126)).cell? ⟨w.heap.size,1,none⟩=some (.int .u32 1):=Yaa hv rfl;have KM:=Yh (Ypx w.heap.size db 1 0 0 1 0 D (w.alloc (.cells (Ybl db 1 0 0) 126)) (by omega) (by omega) (by omega) (by omega) (by omega) (by omega) (by omega) (by omega) (by omega) (by omega) (by omega) hv hd hDz hDv hDf);have HF:Hid (∀ w1 w2,w1.heap[w.heap.size]? = some (.cells (Ybl db 1 (0+1) (1 - 0)) 126 (0,0))→w1.heap[db]? = some (.cells ((Ycg D ((1 - 0:Int).toNat*64) (Yam 1 (0+1) (Yei 1 0))).setIfInBounds 27776 (.slice none 0 0)) 103 (0,0))→(∀ q,q<(w.alloc (.cells (Ybl db 1 0 0) 126)).heap.size→q≠w.heap.size→q≠db→w1.heap[q]? = (w.alloc (.cells (Ybl db 1 0 0) 126)).heap[q]?)→Below 0 (w.alloc (.cells (Ybl db 1 0 0) 126)) w1→Below w1.heap.size w1 w2→Yjf w2 w1.heap.size w.heap.size true (w1.heap.size+5)→Yfc w w2 db true (w1.heap.size+5)):=fun w1 w2 a1 a2 a3 a4 a5 a6=>Ytg true 0 hDz hDf ha hdw a1 a2 a3 a4 a5 a6
  clear hv hd;generalize hW:w.alloc (.cells (Ybl db 1 0 0) 126)=W at KM c1 HF ⊢;clear hD hDz hDv hDf ha hW;go_enter func82,ntmps82;go_wp2_with (first
   | (go_at_call 85;go_must (
    refine KM.out.mono ?_;rintro e w1 ⟨rfl,hv1,hd1,ho1,hb1⟩;have H1:=Yh (And.intro hv1 (And.intro hd1 (And.intro ho1 hb1)));clear hv1 hd1 ho1 hb1))
   | (go_at_call 102;go_must (
    refine (Y1m _ _).mono ?_;rintro e w2 ⟨rfl,hb2,hk2⟩;have H2:=Yh (HF.out w1 w2 H1.out.1 H1.out.2.1 H1.out.2.2.1 H1.out.2.2.2 hb2 hk2);clear hb2 hk2)))
  go_ret;exact ⟨_,rfl,H2.out⟩
 clear hD hDz hDv hDf ha
 generalize Yfc w=WN at KS ⊢
 go_enter func67,ntmps67
 go_wp2_with (first
  | (go_at_call 76;go_must (
   refine (Yp0 db w).mono ?_;rintro e w0 ⟨rfl,rfl⟩))
  | (go_at_call 82;go_must (
   refine KS.out.mono ?_;rintro e w1 ⟨kb,rfl,h1⟩;have H1:=Yh h1;clear h1)))
 go_ret
 exact ⟨_,rfl,H1.out⟩
theorem Ytj (w:World):
 Calls prog 40 #[.int .i64 0] w fun e w'=>∃ a s,e=.returned (.tuple #[.pointer (some ⟨a,0,none⟩),.int .i64 0])∧Below w.heap.size w w'∧Yhn w w' a true s:=by
 have KN:Hid (∀ Z:Array Value,Z.size=27779→Z[27776]? = some (.slice none 0 0)→Z[27777]? = some (.int .i64 0)→(∀ i,i<27776→Z[i]? = some (.int .u8 0))→Calls prog 67 #[.int .i64 0,.pointer (some ⟨w.heap.size,0,none⟩)] (w.alloc (.cells Z 103)) fun e w'=>∃ kb,e=.returned (.iface 234 (.pointer (some ⟨kb,0,none⟩)))∧Yfc (w.alloc (.cells Z 103)) w' w.heap.size true kb):=fun Z h1 h2 h3 h4=>Y1p w.heap.size Z _ (heap_alloc_new w _) h1 h2 h3 h4
 go_enter func40,ntmps40
 go_wp2_with (first
  | (go_at_call 48;refine (Ymy _ _).mono ?_;rintro e w' ⟨rfl,rfl⟩)
  | (go_at_call 67;go_must (
   refine (KN.out _ Ymx Ypy Ypz Ytd).mono ?_;rintro e w1 ⟨kb,rfl,h1⟩;have H1:=Yh h1;clear h1)))
 go_ret2
 obtain ⟨s,h1,h2⟩:=Yti true H1.out rfl
 exact ⟨_,s,rfl,h1,h2⟩
theorem Y1q (db:Nat) (D:Array Value) (w:World) (hD:w.heap[db]? = some (.cells D 103 (0,0))) (hDz:D.size=27779) (hDv:D[27776]? = some (.slice none 0 0)) (hDf:D[27777]? = some (.int .i64 0)) (ha:∀ i,i<27776→D[i]? = some (.int .u8 0)):
 Calls prog 67 #[.int .i64 1,.pointer (some ⟨db,0,none⟩)] w fun e w'=>∃ kb,e=.returned (.iface 224 (.pointer (some ⟨kb,0,none⟩)))∧Yfc w w' db false kb:=by
 have hdw:db<w.heap.size:=Yaj hD
 have KS:Hid (Calls prog 82 #[.int .i64 1,.pointer (some ⟨w.heap.size,0,none⟩)] (w.alloc (.cells (Ybl db 1 0 0) 126)) fun e w'=>∃ kb,e=.returned (.iface 224 (.pointer (some ⟨kb,0,none⟩)))∧Yfc w w' db false kb):=by
  have hv:(w.alloc (.cells (Ybl db 1 0 0) 126)).heap[w.heap.size]? = some (.cells (Ybl db 1 0 0) 126 (0,0)):=heap_alloc_new w _;have hd:(w.alloc (.cells (Ybl db 1 0 0) 126)).heap[db]? = some (.cells D 103 (0,0)):=(Below.heap_alloc _ _ _ hdw).trans hD;have c1:(w.alloc (.cells (Ybl db 1 0 0) 126)).cell? ⟨w.heap.size,1,none⟩=some (.int .u32 1):=Yaa hv rfl;have KM:=Yh (Ypx w.heap.size db 1 0 0 1 1 D (w.alloc (.cells (Ybl db 1 0 0) 126)) (by omega) (by omega) (by omega) (by omega) (by omega) (by omega) (by omega) (by omega) (by omega) (by omega) (by omega) hv hd hDz hDv hDf);have HF:Hid (∀ w1 w2,w1.heap[w.heap.size]? = some (.cells (Ybl db 1 (0+1) (1 - 0)) 126 (0,0))→w1.heap[db]? = some (.cells ((Ycg D ((1 - 0:Int).toNat*64) (Yam 1 (0+1) (Yei 1 1))).setIfInBounds 27776 (.slice none 0 0)) 103 (0,0))→(∀ q,q<(w.alloc (.cells (Ybl db 1 0 0) 126)).heap.size→q≠w.heap.size→q≠db→w1.heap[q]? = (w.alloc (.cells (Ybl db 1 0 0) 126)).heap[q]?)→Below 0 (w.alloc (.cells (Ybl db 1 0 0) 126)) w1→Below w1.heap.size w1 w2→Yjf w2 w1.heap.size w.heap.size false (w1.heap.size+6)→Yfc w w2 db false (w1.heap.size+6)):=fun w1 w2 a1 a2 a3 a4 a5 a6=>Ytg false 1 hDz hDf ha hdw a1 a2 a3 a4 a5 a6
  clear hv hd;generalize hW:w.alloc (.cells (Ybl db 1 0 0) 126)=W at KM c1 HF ⊢;clear hD hDz hDv hDf ha hW;go_enter func82,ntmps82;go_wp2_with (first
   | (go_at_call 85;go_must (
    refine KM.out.mono ?_;rintro e w1 ⟨rfl,hv1,hd1,ho1,hb1⟩;have H1:=Yh (And.intro hv1 (And.intro hd1 (And.intro ho1 hb1)));clear hv1 hd1 ho1 hb1))
   | (go_at_call 102;go_must (
    refine (Y1n _ _).mono ?_;rintro e w2 ⟨rfl,hb2,hk2⟩;have H2:=Yh (HF.out w1 w2 H1.out.1 H1.out.2.1 H1.out.2.2.1 H1.out.2.2.2 hb2 hk2);clear hb2 hk2)))
  go_ret;exact ⟨_,rfl,H2.out⟩
 clear hD hDz hDv hDf ha
 generalize Yfc w=WN at KS ⊢
 go_enter func67,ntmps67
 go_wp2_with (first
  | (go_at_call 76;go_must (
   refine (Yp0 db w).mono ?_;rintro e w0 ⟨rfl,rfl⟩))
  | (go_at_call 82;go_must (
   refine KS.out.mono ?_;rintro e w1 ⟨kb,rfl,h1⟩;have H1:=Yh h1;clear h1)))
 go_ret
 exact ⟨_,rfl,H1.out⟩
theorem Ytk (w:World):
 Calls prog 40 #[.int .i64 1] w fun e w'=>∃ a s,e=.returned (.tuple #[.pointer (some ⟨a,0,none⟩),.int .i64 0])∧Below w.heap.size w w'∧Yhn w w' a false s:=by
 have KN:Hid (∀ Z:Array Value,Z.size=27779→Z[27776]? = some (.slice none 0 0)→Z[27777]? = some (.int .i64 0)→(∀ i,i<27776→Z[i]? = some (.int .u8 0))→Calls prog 67 #[.int .i64 1,.pointer (some ⟨w.heap.size,0,none⟩)] (w.alloc (.cells Z 103)) fun e w'=>∃ kb,e=.returned (.iface 224 (.pointer (some ⟨kb,0,none⟩)))∧Yfc (w.alloc (.cells Z 103)) w' w.heap.size false kb):=fun Z h1 h2 h3 h4=>Y1q w.heap.size Z _ (heap_alloc_new w _) h1 h2 h3 h4
 go_enter func40,ntmps40
 go_wp2_with (first
  | (go_at_call 48;refine (Ymy _ _).mono ?_;rintro e w' ⟨rfl,rfl⟩)
  | (go_at_call 67;go_must (
   refine (KN.out _ Ymx Ypy Ypz Ytd).mono ?_;rintro e w1 ⟨kb,rfl,h1⟩;have H1:=Yh h1;clear h1)))
 go_ret2
 obtain ⟨s,h1,h2⟩:=Yti false H1.out rfl
 exact ⟨_,s,rfl,h1,h2⟩
end Go.Proofs.YtihbngfbcnojcaaGreat
