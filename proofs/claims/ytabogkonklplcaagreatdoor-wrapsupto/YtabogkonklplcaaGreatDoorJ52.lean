import Derived.Test.YtabogkonklplcaaGreatDoorJ45
import Derived.Test.YtabogkonklplcaaGreatDoorJ34
namespace Go.Proofs.YtabogkonklplcaaGreatDoor
set_option linter.unusedSimpArgs false
set_option linter.unusedVariables false
set_option maxRecDepth 20000
set_option maxHeartbeats 8000000
section
open Go.ChangeShapes Go.WideShapes Go.ChangeAt Go.RowKit Go.Deep
theorem Zgg (os:Os) (args:Array Value):laidMetH Tryz.prog Rows.wrapsUptoRow.laid ((ZaB os).forCall (fun _ _=>0) ⟨#[],args,[]⟩).memory:=Zgf os args
section
variable {PD:PDT} {G:World→Prop}
theorem Zje (hA:Xh PD G) (hL:∀ W,laidMetH Tryz.prog Rows.wrapsUptoRow.laid W→G W) (H:Type) (enc:TypeId × Value→H) (W:World) (base:Nat) (args:Array Value) (ds gs:List (DataW H)) (before:List MemPlace)
 (hval:∀ (j:Nat) t v,Tryz.f7.params[j]?=some t→args[j]?=some v→Value.okWide Tryz.prog W .any base t v)
 (hW:DataW.Whole enc Tryz.prog Tryz.f7.params.toList Rows.wrapsSpec.vars false W args.toList ds gs before)
 (hk:Rows.uptoSmall H (ds++gs)=true) (hLW:laidMetH Tryz.prog Rows.wrapsUptoRow.laid W) :
 Calls Tryz.prog 7 args W fun e W'=>∃ v,e=.returned v∧Rows.wrapsSpec.post enc Tryz.prog Tryz.f7 false true false false W args v W':=by
 have hW':=hW
 have hlt:=hW.lt
 obtain⟨p,q,hA0,hV,rfl,hfz,hnd⟩:=hW
 have hA1:DataW.TrodAll enc Tryz.prog W 0 (fun _=>true) true Tryz.f7.params.toList args.toList ds p:=hA0
 rw[Tryz.params7] at hA1 hval
 obtain⟨v0,d0,rfl,rfl,h0⟩:=trodAll_one hA1
 obtain⟨rfl,rfl⟩:=trodVars_none hV
 obtain⟨ka,kl,kc,rfl⟩:=okWide_slice Tryz.underlying22 (hval 0 22 v0 rfl rfl)
 have hh:=h0
 obtain⟨fuel,h0'⟩:=hh
 have hb:Rows.uptoBulk d0≤1048576:=bulk_of hk
 obtain⟨a,g,off,c,script,hv,ha,hs,hok,hlen,hgl⟩:=ZhR (x:=(d0,p)) h0' hb
 rw[hv] at hW' h0 ⊢
 have hG:=hL W hLW
 refine(Zjc (PD:=PD) a g off c script ha hs hok hlen hgl (fun Q w0 yb hb0 hQ=>?_) hA.pd).mono fun e W' ⟨he,hbl⟩=>?_
 · refine Zia hA (fun W1 hK=>?_)
   refine hA.gb W W1 hG (hb0.trans ?_)
   exact⟨hK.os,hK.tape,hK.output,hK.size,fun k hk=>hK.block k (Nat.lt_of_lt_of_le hk hb0.size) (fun e=>by have:=hQ k e;omega)⟩
 · subst he
   refine⟨_,rfl,_,_,_,[],p,[],hW',?_,?_,rfl,hbl.frame _,fun h=>by cases h⟩
   · exact trodAll_mk1 (shut_bool Tryz.underlying4 true)
   · rw[Tryz.params7]
     exact trodAll_mk1 (Below.trod Tryz.laidOut' (by kernel_rfl) (of_decide_eq_true (by kernel_rfl)) h0 hbl (fun x hx=>hlt x (by simpa using hx)))
theorem Zjh (os:Os) {H:Type} (enc:TypeId × Value→H):∃ places,DataW.whole enc Tryz.prog ((ZaB os).forCall (fun _ _=>0) ⟨#[],#[.slice none 0 0],[]⟩).memory Tryz.f7.params.toList Rows.wrapsSpec.vars false #[Value.slice none 0 0].toList 8=some ([.nil],[],places) :=
 ⟨[],by kernel_rfl⟩
set_option maxRecDepth 100000 in
theorem Zjf (hA:Xh PD G) (hL:∀ W,laidMetH Tryz.prog Rows.wrapsUptoRow.laid W→G W) (os:Os) (started:os.Started) (H:Type) (enc:TypeId × Value→H) (F:Stop.Interp) :
 ReturnsInHanded {} Tryz.checked os 7 .any ((Rows.OpenSpec.upto Rows.wrapsSpec).preRow enc Tryz.prog Tryz.f7 Rows.wrapsUptoRow.domain false Rows.wrapsUptoRow.laid) (((Rows.OpenSpec.upto Rows.wrapsSpec).at F).post enc Tryz.prog Tryz.f7 false true false false):=by
 obtain⟨places,hx⟩:=Zjh os enc
 refine returnsInHanded_of_row (C:=Tryz.checked) (s:=Rows.OpenSpec.upto Rows.wrapsSpec) Tryz.own started (by kernel_rfl) Tryz.func7
  (witness_row_atRef (enc:=enc) (C:=Tryz.checked) false (ZaB os) #[.slice none 0 0] rfl (by kernel_rfl) (by kernel_rfl) (by kernel_rfl)
    (OpenSpec.preRow_of_cond 8 hx (by kernel_rfl) (fun k hk=>by cases hk;kernel_rfl) (by kernel_rfl) (Zgg os _))) ?_
 intro W base args ds gs before hval hW _ hcond _ hLW _ _
 exact Zje hA hL H enc W base args ds gs before hval hW (hcond _ rfl) hLW
theorem Zji (hA:Xh PD G) (hL:∀ W,laidMetH Tryz.prog Rows.wrapsUptoRow.laid W→G W):Rows.WrapsUptoSaid :=
 OpenClaim.holds_of_cond 7 Tryz.f7 rfl rfl rfl rfl rfl rfl rfl ⟨rfl,rfl,rfl,rfl,rfl⟩ rfl rfl rfl rfl rfl (by kernel_rfl) Tryz.func7 (by kernel_rfl)
  (of_decide_eq_true (by kernel_rfl)) (by unfold Func.isWrapper;first|(rw[if_pos (by decide +kernel)];kernel_rfl)|(rw[if_neg (by decide +kernel)];exact⟨rfl,rfl⟩))
  (fun os started H enc _ F=>by rw[OpenClaim.pre_eq_preRow];exact Zjf hA hL os started H enc F)
theorem Zjg (f : FuncId) (fn : Func) (hf : Tryz.pinned.checked.prog.funcNamed "margin/marginlaw.Wraps" = some f) (hfn : Tryz.pinned.checked.prog.funcs[f]? = some fn) :
 true=Tryz.pinned.checked.prog.looks []∧∀ (j:Nat) t,fn.params[j]?=some t→Tryz.pinned.checked.prog.wantsStandIn t=false:=by
 obtain rfl : f = 7 := Option.some.inj ((show Tryz.prog.funcNamed "margin/marginlaw.Wraps" = some 7 by kernel_rfl).symm.trans hf) |>.symm
 obtain rfl:fn=Tryz.f7:=(Option.some.inj (Tryz.func7.symm.trans hfn)).symm
 refine⟨by kernel_rfl,fun j t ht=>?_⟩
 rw[Tryz.params7] at ht
 obtain rfl:t=22:=by simpa using Array.mem_of_getElem? ht
 exact(show Tryz.prog.wantsStandIn 22=false by kernel_rfl)
theorem Zjd (hA:Xh PD G) (hL:∀ W,laidMetH Tryz.prog Rows.wrapsUptoRow.laid W→G W):Rows.WrapsUptoCardSaid :=
 Claim7.holds_tied_plain_at .later [] _ _ _ _ (Zji hA hL) (fun _ h=>by cases h) (by kernel_rfl) (fun _ h=>by cases h) wrapsUpto_row_tie rfl ⟨rfl,rfl⟩ (by kernel_rfl) rfl Zjg (by kernel_rfl)
end
end
end Go.Proofs.YtabogkonklplcaaGreatDoor
