import Derived.Test.YtabogkonklplcaaGreatDoorH23
import Derived.Test.YtabogkonklplcaaGreatDoorH32
namespace Go.Proofs.YtabogkonklplcaaGreatDoor
set_option linter.unusedSimpArgs false
set_option linter.unusedVariables false
set_option maxRecDepth 20000
set_option maxHeartbeats 8000000
section
open Go.ChangeShapes Go.WideShapes Go.ChangeAt Go.RowKit Go.Deep
theorem allL_any {PD:PDT} {w:World} (a:Option Addr) (g off c:Nat) (script:List OpR) (ha:0 < script.length→a=some ⟨g,off,none⟩) (hs:Ju w g off script) (hok:∀ o∈script,OpOk o) (hlen:script.length+6 < lots) (hgl:0 < script.length→g < w.heap.size)
 (hPD:PDOk PD) (hst:∀ (Q:Nat→Prop) (w0:World) (yb:Nat),Below w.heap.size w w0→(∀ b,Q b→w.heap.size≤b)→Jy PD Q w0 yb (fun k=>1≤k∧k≤15)) :
 Calls Tryz.prog 8 #[.slice a script.length c] w fun e w'=>e=.returned (.bool true)∧Below w.heap.size w w':=by
 have hrow:(w.alloc (.cells #[.int .i64 1,.int .i64 2,.int .i64 3,.int .i64 4,.int .i64 5,.int .i64 6,.int .i64 7,.int .i64 8,.int .i64 9,.int .i64 10,.int .i64 11,.int .i64 12,.int .i64 13,.int .i64 14,.int .i64 15] 3)).ownsRow 0 3 1 (.slice (some ⟨w.heap.size,0,none⟩) 15 15) 15 (([1,2,3,4,5,6,7,8,9,10,11,12,13,14,15]:List Int).map (fun k=>Value.int .i64 k)):=by
  have:=World.ownsRow_lit (base:=0) (e:=3) (size:=1) w #[.int .i64 1,.int .i64 2,.int .i64 3,.int .i64 4,.int .i64 5,.int .i64 6,.int .i64 7,.int .i64 8,.int .i64 9,.int .i64 10,.int .i64 11,.int .i64 12,.int .i64 13,.int .i64 14,.int .i64 15] 15 (Nat.zero_le _) (by decide) rfl
  simpa using this
 have hB:Below w.heap.size w (w.alloc (.cells #[.int .i64 1,.int .i64 2,.int .i64 3,.int .i64 4,.int .i64 5,.int .i64 6,.int .i64 7,.int .i64 8,.int .i64 9,.int .i64 10,.int .i64 11,.int .i64 12,.int .i64 13,.int .i64 14,.int .i64 15] 3)):=(Below.refl _ w).alloc (Nat.le_refl _) _
 have C:=hid (Zg6 (PD:=PD) (w:=w.alloc (.cells #[.int .i64 1,.int .i64 2,.int .i64 3,.int .i64 4,.int .i64 5,.int .i64 6,.int .i64 7,.int .i64 8,.int .i64 9,.int .i64 10,.int .i64 11,.int .i64 12,.int .i64 13,.int .i64 14,.int .i64 15] 3)) a g off c w.heap.size 15 script [1,2,3,4,5,6,7,8,9,10,11,12,13,14,15] ha
  (fun i o ho j u hu=>by
    have hg:=hgl (by have:=(List.getElem?_eq_some_iff.1 ho).1;omega)
    exact(hB.cell (p:=⟨g,off+i*10+j,none⟩) hg).trans (hs i o ho j u hu))
  hok hlen (fun h=>by have:=hgl h;simp;omega) hrow (by decide)
  (by
    intro o ho hk
    refine hst _ _ _ ((hB.alloc (by simp) _).alloc (by simp;omega) _) (fun b e=>by simp at e;omega) o ho ?_
    rcases hk with hk|hk
    · exact⟨hk.1,by omega⟩
    · simp at hk;omega)
  hPD)
 have HB:=hid hB
 clear hrow hB hs hok hlen hgl hPD hst ha
 go_enter Tryz.func8,Tryz.ntmps8
 go_wp2_with (go_at_call 14;refine C.out.mono ?_;rintro e w3 ⟨rfl,hb⟩)
 go_ret
 exact⟨rfl,HB.out.trans (hb.mono (by simp))⟩
theorem Zgj (os:Os) (args:Array Value):laidMetH Tryz.prog Rows.allUptoRow.laid ((ZaB os).forCall (fun _ _=>0) ⟨#[],args,[]⟩).memory:=Zgi os args
section
variable {PD:PDT} {G:World→Prop}
theorem Ze3 (hA:XE PD G) (hL:∀ W,laidMetH Tryz.prog Rows.allUptoRow.laid W→G W) (H:Type) (enc:TypeId × Value→H) (W:World) (base:Nat) (args:Array Value) (ds gs:List (DataW H)) (before:List MemPlace)
 (hval:∀ (j:Nat) t v,Tryz.f8.params[j]?=some t→args[j]?=some v→Value.okWide Tryz.prog W .any base t v)
 (hW:DataW.Whole enc Tryz.prog Tryz.f8.params.toList Rows.allSpec.vars false W args.toList ds gs before)
 (hk:Rows.uptoSmall H (ds++gs)=true) (hLW:laidMetH Tryz.prog Rows.allUptoRow.laid W) :
 Calls Tryz.prog 8 args W fun e W'=>∃ v,e=.returned v∧Rows.allSpec.post enc Tryz.prog Tryz.f8 false true false false W args v W':=by
 have hW':=hW
 have hlt:=hW.lt
 obtain⟨p,q,hA0,hV,rfl,hfz,hnd⟩:=hW
 have hA1:DataW.TrodAll enc Tryz.prog W 0 (fun _=>true) true Tryz.f8.params.toList args.toList ds p:=hA0
 rw[Tryz.params8] at hA1 hval
 obtain⟨v0,d0,rfl,rfl,h0⟩:=trodAll_one hA1
 obtain⟨rfl,rfl⟩:=trodVars_none hV
 obtain⟨ka,kl,kc,rfl⟩:=okWide_slice Tryz.underlying22 (hval 0 22 v0 rfl rfl)
 have hh:=h0
 obtain⟨fuel,h0'⟩:=hh
 have hb:Rows.uptoBulk d0≤1048576:=bulk_of hk
 obtain⟨a,g,off,c,script,hv,ha,hs,hok,hlen,hgl⟩:=ZhV (x:=(d0,p)) h0' hb
 rw[hv] at hW' h0 ⊢
 have hG:=hL W hLW
 refine(allL_any (PD:=PD) a g off c script ha hs hok hlen hgl hA.pd (fun Q w0 yb hb0 hQ=>?_)).mono fun e W' ⟨he,hbl⟩=>?_
 · refine Zih hA (fun W1 hK=>?_)
   refine hA.gb W W1 hG (hb0.trans ?_)
   exact⟨hK.os,hK.tape,hK.output,hK.size,fun k hk=>hK.block k (Nat.lt_of_lt_of_le hk hb0.size) (fun e=>by have:=hQ k e;omega)⟩
 · subst he
   refine⟨_,rfl,_,_,_,[],p,[],hW',?_,?_,rfl,hbl.frame _,fun h=>by cases h⟩
   · exact trodAll_mk1 (shut_bool Tryz.underlying4 true)
   · rw[Tryz.params8]
     exact trodAll_mk1 (Below.trod Tryz.laidOut' (by kernel_rfl) (of_decide_eq_true (by kernel_rfl)) h0 hbl (fun x hx=>hlt x (by simpa using hx)))
theorem Ze6 (os:Os) {H:Type} (enc:TypeId × Value→H):∃ places,DataW.whole enc Tryz.prog ((ZaB os).forCall (fun _ _=>0) ⟨#[],#[.slice none 0 0],[]⟩).memory Tryz.f8.params.toList Rows.allSpec.vars false #[Value.slice none 0 0].toList 8=some ([.nil],[],places) :=
 ⟨[],by kernel_rfl⟩
set_option maxRecDepth 100000 in
theorem Ze4 (hA:XE PD G) (hL:∀ W,laidMetH Tryz.prog Rows.allUptoRow.laid W→G W) (os:Os) (started:os.Started) (H:Type) (enc:TypeId × Value→H) (F:Stop.Interp) :
 ReturnsInHanded {} Tryz.checked os 8 .any ((Rows.OpenSpec.upto Rows.allSpec).preRow enc Tryz.prog Tryz.f8 Rows.allUptoRow.domain false Rows.allUptoRow.laid) (((Rows.OpenSpec.upto Rows.allSpec).at F).post enc Tryz.prog Tryz.f8 false true false false):=by
 obtain⟨places,hx⟩:=Ze6 os enc
 refine returnsInHanded_of_row (C:=Tryz.checked) (s:=Rows.OpenSpec.upto Rows.allSpec) Tryz.own started (by kernel_rfl) Tryz.func8
  (witness_row_atRef (enc:=enc) (C:=Tryz.checked) false (ZaB os) #[.slice none 0 0] rfl (by kernel_rfl) (by kernel_rfl) (by kernel_rfl)
    (OpenSpec.preRow_of_cond 8 hx (by kernel_rfl) (fun k hk=>by cases hk;kernel_rfl) (by kernel_rfl) (Zgj os _))) ?_
 intro W base args ds gs before hval hW _ hcond _ hLW _ _
 exact Ze3 hA hL H enc W base args ds gs before hval hW (hcond _ rfl) hLW
theorem Ze7 (hA:XE PD G) (hL:∀ W,laidMetH Tryz.prog Rows.allUptoRow.laid W→G W):Rows.AllUptoSaid :=
 OpenClaim.holds_of_cond 8 Tryz.f8 rfl rfl rfl rfl rfl rfl rfl ⟨rfl,rfl,rfl,rfl,rfl⟩ rfl rfl rfl rfl rfl (by kernel_rfl) Tryz.func8 (by kernel_rfl)
  (of_decide_eq_true (by kernel_rfl)) (by unfold Func.isWrapper;first|(rw[if_pos (by decide +kernel)];kernel_rfl)|(rw[if_neg (by decide +kernel)];exact⟨rfl,rfl⟩))
  (fun os started H enc _ F=>by rw[OpenClaim.pre_eq_preRow];exact Ze4 hA hL os started H enc F)
theorem Ze5 (f : FuncId) (fn : Func) (hf : Tryz.pinned.checked.prog.funcNamed "margin/marginlaw.All" = some f) (hfn : Tryz.pinned.checked.prog.funcs[f]? = some fn) :
 true=Tryz.pinned.checked.prog.looks []∧∀ (j:Nat) t,fn.params[j]?=some t→Tryz.pinned.checked.prog.wantsStandIn t=false:=by
 obtain rfl : f = 8 := Option.some.inj ((show Tryz.prog.funcNamed "margin/marginlaw.All" = some 8 by kernel_rfl).symm.trans hf) |>.symm
 obtain rfl:fn=Tryz.f8:=(Option.some.inj (Tryz.func8.symm.trans hfn)).symm
 refine⟨by kernel_rfl,fun j t ht=>?_⟩
 rw[Tryz.params8] at ht
 obtain rfl:t=22:=by simpa using Array.mem_of_getElem? ht
 exact(show Tryz.prog.wantsStandIn 22=false by kernel_rfl)
theorem Ze2 (hA:XE PD G) (hL:∀ W,laidMetH Tryz.prog Rows.allUptoRow.laid W→G W):Rows.AllUptoCardSaid :=
 Claim7.holds_tied_plain_at .later [] _ _ _ _ (Ze7 hA hL) (fun _ h=>by cases h) (by kernel_rfl) (fun _ h=>by cases h) allUpto_row_tie rfl ⟨rfl,rfl⟩ (by kernel_rfl) rfl Ze5 (by kernel_rfl)
end
end
end Go.Proofs.YtabogkonklplcaaGreatDoor
