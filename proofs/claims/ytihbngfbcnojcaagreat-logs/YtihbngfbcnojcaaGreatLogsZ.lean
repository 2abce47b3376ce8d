import Derived.Test.YtihbngfbcnojcaaGreatRows
import Derived.Test.YtihbngfbcnojcaaGreatActC21
set_option maxRecDepth 100000
set_option maxHeartbeats 8000000
namespace Go.Proofs.YtihbngfbcnojcaaGreat
open Go.RowKit Go.ChangeShapes Go.WideShapes Go.ChangeAt Go.Deep Go.Proofs.Tryz
theorem Y5w (ad:Option Addr) (len cap:Nat) (w:World)
 (hu:∀ w1,Below w.heap.size w w1→Calls prog 16 #[.slice ad len cap,.int .i64 10,.int .i64 10,.int .i64 10] w1 fun e w'=>e=.returned (.int .i64 (-1))∧Below w1.heap.size w1 w'):
 Calls prog 6 #[.slice ad len cap] w fun e w'=>e=.returned (.bool true)∧Below w.heap.size w w':=by
 have HU:=Yh hu
 clear hu
 go_enter func6,ntmps6
 go_wp2_with (first
  | (go_at_call 15;go_must (refine (Yo9 _).mono ?_;rintro e w1 ⟨rfl,hb1⟩))
  | (go_at_call 16;go_must (refine (HU.out _ hb1).mono ?_;rintro e w2 ⟨rfl,hb2⟩)))
 go_ret
 exact ⟨rfl,hb1.trans (hb2.mono hb1.size)⟩
theorem Y5x (os:Os) (started:os.Started) (H:Type) (enc:TypeId×Value→H):
 ReturnsInHanded {} Tryz.checked os 6 .any (Rows.logsSpec.pre6 enc prog Tryz.f6 Rows.logsRow.domain false) (Rows.logsSpec.post enc prog Tryz.f6 false true false false):=by
 refine returnsInHanded_of_change_sized (C:=Tryz.checked) Ypb started (by kernel_rfl) func6
  (ChangeSpec.witness6 (enc:=enc) (C:=Tryz.checked) false ⟨#[],#[.slice none 0 0],[]⟩ 8 (by kernel_rfl) (by kernel_rfl) (by kernel_rfl) (by kernel_rfl)) ?_
 intro W base args ds gs before hval0 hW hcnd hsz0 _
 have hval:∀ (j:Nat) t v,Tryz.f6.params[j]? = some t→args[j]? = some v→Value.okWide prog W .any base t v:=hval0
 have hsz:(DataW.weightsEach prog (Tryz.f6.params.toList ++ Rows.logsSpec.plain.varTypes prog) (ds ++ gs)).all (·≤reachBytes)=true:=hsz0
 have hW':=hW
 obtain ⟨p,q,hA0,hV,rfl,hfz,hnd⟩:=hW
 have hA:DataW.TrodAll enc prog W 0 (fun _=>true) true Tryz.f6.params.toList args.toList ds p:=hA0
 rw [Tryz.params6] at hA hval hsz
 obtain ⟨v0,d0,rfl,rfl,h0⟩:=trodAll_one hA
 obtain ⟨rfl,rfl⟩:=trodVars_none hV
 obtain ⟨a0,len,cap,rfl⟩:=okWide_slice underlying22 (hval 0 22 v0 rfl rfl)
 clear hA0 hval0 hsz0
 simp only [List.append_nil] at hW'
 have hlt:∀ x∈p,x.block<W.heap.size:=fun x hx=>hW'.lt x (by simpa using hx)
 have hc:Calls prog 6 #[.slice a0 len cap] W fun e w'=>e=.returned (.bool true)∧Below W.heap.size W w':=by
  refine Y5w a0 len cap W fun w1 hb1=>?_
  obtain ⟨fuel,hf⟩:=h0;rcases open_slice underlying22 hf with ⟨hcs,_⟩ | ⟨a,len',cap',m,n,D,Pl,hcs,_,hl,hm,hmm,hd,hx⟩
  ·simp [Value.cells] at hcs
   obtain ⟨rfl,rfl,rfl⟩:=hcs;exact Yjs _ _ _ _ _ _
  ·simp [Value.cells] at hcs
   obtain ⟨rfl,rfl,rfl⟩:=hcs;by_cases hl0:0<len
   ·simp only [Prod.mk.injEq] at hd
    have hd1:=hd.1;have hml:len≤m:=by rw [hmm];split <;> omega
    have hb:=sized_slice hsz (j:=0) (t:=22) rfl (by rw [hd1];rfl) underlying22;rw [Ypd] at hb;simp only [List.length_map,List.length_range,reachBytes] at hb;have hz:∀ i,i<len→∀ n∈(D i).weights prog 80,n≤reachBytes:=fun i hi n hn=>by
     refine of_decide_eq_true (List.all_eq_true.1 hsz _ (DataW.weights_mem_each (j:=0) (t:=22) rfl (by rw [hd1];rfl) n ?_));simp only [DataW.weights,underlying22,List.mem_cons,List.mem_append];exact Or.inr (Or.inl (Ymh (List.mem_map.2 ⟨i,List.mem_range.2 hi,rfl⟩) _ hn))
    obtain ⟨hsp,hsc⟩:=Ypa (len:=len) (fun i hi=>hx i (by omega)) hl0 hz;have ha:a=⟨a.block,a.off,none⟩:=by cases a;simp_all
    rw [ha];exact Yo8 a.block a.off len cap 10 10 w1 (by omega) (hsc.later hb1)
   ·obtain rfl:len=0:=by omega
    exact Yjs _ _ _ _ _ _
 refine hc.mono fun e W' ⟨he,hB⟩=>?_
 subst he
 refine ⟨_,rfl,_,_,_,[],p,[],hW',?_,?_,?_,hB.frame _,fun h=>by cases h⟩
 ·exact trodAll_mk1 (shut_bool underlying4 true)
 ·exact trodAll_mk1 (Below.trod Ypc (by kernel_rfl) (of_decide_eq_true (by kernel_rfl)) h0 hB hlt)
 ·rfl
theorem logs_holds:Rows.LogsSaid:=
 OpenClaim.holds_of_wide 6 Tryz.f6 rfl rfl rfl rfl rfl rfl rfl ⟨rfl,rfl,rfl,rfl,rfl⟩ rfl rfl rfl rfl rfl (by kernel_rfl) func6 (by kernel_rfl)
  (of_decide_eq_true (by kernel_rfl)) (by unfold Func.isWrapper;first | (rw [if_pos (by decide +kernel)];kernel_rfl) | (rw [if_neg (by decide +kernel)];exact ⟨rfl,rfl⟩))
  (fun os started H enc _=>Y5x os started H enc)
end Go.Proofs.YtihbngfbcnojcaaGreat
