import Derived.Test.YtabogkonklplcaaGreatDoorJ11
import Derived.Test.YtabogkonklplcaaGreatDoorJ12
import Derived.Test.YtabogkonklplcaaGreatDoorJ16
import Derived.Shelf.Abstract
import Derived.Shelf.RegionOpen
import Derived.OwnWalkIn
import Derived.TacticsInMore
import Derived.LoopNIn
import Derived.LoopIn
namespace Go.Proofs.YtabogkonklplcaaGreatDoor
set_option linter.unusedSimpArgs false
set_option linter.unusedVariables false
set_option maxRecDepth 20000
set_option maxHeartbeats 8000000
section
open Go.RowKit Go.Shelf
attribute [local go_sem] Oper.semAt_some
theorem JB (bf:Nat) (c:Int) (w:World):Calls Tryz.prog 90 #[ptr bf,.int .i64 c] w fun e w' =>
 e=.returned (.func (.func 138) #[] #[ptr (w.heap.size+1),ptr w.heap.size])∧w'=(w.alloc (.cells #[ptr bf] 91)).alloc (.cells #[.int .i64 c] 3):=by
 go_enter Tryz.func90,Tryz.ntmps90
 go_wp2
 go_ret
 exact⟨by simp,rfl⟩
structure Seen (s:List Nd) (F:Nat→Prop) (bf bn cap:Nat) (pn:List PN) (n b1 b2 b3 l:Nat) (w:World):Prop where
 forest:Zh w F bf bn cap pn s
 number:w.cell? ⟨b1,0,none⟩=some (.int .i64 n)
 whose:w.cell? ⟨b2,0,none⟩=some (ptr bf)
 yield:w.cell? ⟨b3,0,none⟩=some (.func (.yield l) #[] #[])
theorem Seen.keeps {s:List Nd} {F O:Nat→Prop} {bf bn cap:Nat} {pn:List PN} {n b1 b2 b3 l:Nat} {w w':World} (h:Seen s F bf bn cap pn n b1 b2 b3 l w) (hk:Zb O w w') (hF:∀ b,F b→¬ O b) (o1:¬ O b1) (o2:¬ O b2) (o3:¬ O b3):Seen s F bf bn cap pn n b1 b2 b3 l w' :=
 ⟨h.forest.keeps hk hF,hk.cell h.number o1,hk.cell h.whose o2,hk.cell h.yield o3⟩
theorem Zaf {s:List Nd} (wf:WF s) {h:Nat→Nat} {B:Nat} (u:Up s h B) {F:Nat→Prop} {bf bn cap:Nat} {pn:List PN}:∀ (k n:Nat),n < s.length→h n < k→∀ (w:World) (O:Nat→Prop) (b1 b2:Nat),Zh w F bf bn cap pn s→(∀ b,F b→b < w.heap.size∧¬ O b) →
 w.cell? ⟨b1,0,none⟩=some (.int .i64 n)→w.cell? ⟨b2,0,none⟩=some (ptr bf)→¬ O b1→¬ O b2→Jy Tryz.prog 138 #[ptr b1,ptr b2] (allF s k n) w O:=by
 intro k
 induction k with
 | zero=>intro n _ hh;omega
 | succ k ih =>
   intro n hn hh w O b1 b2 hD hF c1 c2 o1 o2 l J Jx O1 w1 hb hO1 hlt mJ mJx hY hJ0
   have hb1:=hb
   have l1:=World.block_lt_of_cell? w _ c1
   have l2:=World.block_lt_of_cell? w _ c2
   have hF1:∀ b,F b→¬ O1 b:=fun b hb1 e=>(hO1 b e).elim (hF b hb1).2 (fun e=>by have:=(hF b hb1).1;omega)
   have p1:¬ O1 b1:=fun e=>(hO1 _ e).elim o1 (fun e=>by simp at l1;omega)
   have p2:¬ O1 b2:=fun e=>(hO1 _ e).elim o2 (fun e=>by simp at l2;omega)
   have p3:¬ O1 w1.heap.size:=fun e=>by have:=hlt _ e;omega
   have hk0:Zb O1 w1 (w1.alloc (.cells #[.func (.yield l) #[] #[]] 83)):=(Zb.refl _ _).alloc _
   have S0:Seen s F bf bn cap pn n b1 b2 w1.heap.size l (w1.alloc (.cells #[.func (.yield l) #[] #[]] 83)) :=
    ⟨(hD.below hb).keeps hk0 hF1,hk0.cell ((hb.cell (p:=⟨b1,0,none⟩) l1).trans c1) p1,hk0.cell ((hb.cell (p:=⟨b2,0,none⟩) l2).trans c2) p2,Za (heap_alloc_new w1 _) 0⟩
   have hJ1:J [] O1 (w1.alloc (.cells #[.func (.yield l) #[] #[]] 83)):=mJ _ _ _ _ hJ0 ((Zb.refl _ _).alloc _)
   obtain⟨fn,tmps,assign,body,hy,hR⟩:=hY 0 [] n O1 _ hJ1 ⟨(ZD s n).flatMap (allF s k),rfl⟩ (fun b e=>by have:=hlt b e;simp;omega)
   have e1:=S0.number
   have e2:=S0.yield
   have SS:=hid S0
   have HR:=hid hR
   refine callsIn_wide.1 (callsIn_of_wp_marks (F:=Fence.wide) (n:=1) Tryz.func138 rfl trivial ?_ rfl)
   clear hR S0 hJ1 hJ0 c1 c2 hb hD
   simp only[Tryz.ntmps138,List.size_toArray,List.length_cons,List.length_nil,Nat.reduceAdd,Nat.reduceSub,Array.replicate_succ,Array.replicate_zero,List.push_toArray,List.append_toArray,List.nil_append,List.cons_append]
   dsimp only[encN] at hy
   gi_wp2
   refine HR.out.mono ?_
   rintro e w2 ⟨O2,st2,(⟨rfl,hJ2⟩|⟨rfl,hX2⟩)⟩
   · have S2:=SS.out.keeps st2.keeps hF1 p1 p2 p3
     have f1:=S2.number
     have f2:=S2.whose
     have h0:=S2.forest.nodesCell
     have hx:s[n]?=some s[n]:=List.getElem?_eq_getElem hn
     obtain⟨x,hxx⟩:∃ x,x=s[n]:=⟨_,rfl⟩
     rw[← hxx] at hx
     clear hxx
     obtain⟨r,hr,ho,d0,d1,d2,d3⟩:=S2.forest.look hx
     obtain⟨sa,sc,hkv⟩:∃ a c,r.kv=.slice a x.ks.length c:=by
      rcases ZB ho.kids with ⟨h1,h2⟩|⟨g,c,h1⟩
      · exact⟨none,0,by rw[h1,h2]⟩
      · exact⟨_,_,h1⟩
     rw[hkv] at d2
     have S3:=hid S2
     have RO:=hid ho
     have RH:=hid hr
     have JJ:=hid hJ2
     have ST:=hid st2
     clear S2 d0 d1 d3 hr ho hJ2 st2 hy HR SS e1 e2
     gi_wp2
     gi_region
     gi_wp2
     have hkid:∀ c∈x.ks,c<s.length∧h c<h n:=fun c hc=>wf.kid_lt u hx hc
     have hkl:x.ks.length≤40:=Nat.le_trans (Xx s.length _ (wf.nodup n x hx) (fun c hc=>(hkid c hc).1)) wf.cap
     refine wpIn_loop (fun a wr=>∃ (i:Nat) (ds:List Nat) (O':Nat→Prop) (u5 u21 u22 u23 u24 u25 u26 u32:Value),i≤x.ks.length∧a=Act.mk
      #[Value.func (Fn.yield l) #[] #[],ptr b1,ptr b2,Value.pointer (some { block:=w1.heap.size,off:=0 }),
       undef,u5,undef,Value.func (Fn.yield l) #[] #[],Value.int IntKind.i64 n,Value.bool true,
       Value.bool false,ptr bf,Value.pointer (some { block:=bf,off:=0 }),
       Value.pointer (some { block:=bf,off:=0 }),Value.slice (some { block:=bn,off:=0 }) s.length cap,
       Value.int IntKind.i64 n,Value.pointer (some { block:=bn,off:=n*4 }),
       Value.pointer (some { block:=bn,off:=n*4+2 }),Value.slice sa x.ks.length sc,
       Value.int IntKind.i64 x.ks.length,Value.int IntKind.i64 i,u21,u22,u23,u24,u25,u26,undef,
       undef,undef,undef,undef,u32] (ds.map mark) ∧
      Stp O1 O' (w1.alloc (.cells #[.func (.yield l) #[] #[]] 83)) wr∧J (n::(x.ks.take i).flatMap (allF s k)) O' wr∧Seen s F bf bn cap pn n b1 b2 w1.heap.size l wr∧ds.Nodup∧(∀ D∈ds,(w1.heap.size<D∧¬ O' D)∧wr.heap[D]?=some (.deferred (some []))))
      (fun a _=>x.ks.length - (intOf (a.tmps.getD 20 undef)).toNat) ?start ?round
     case start =>
      have st1:=ST.out.drew
      have kd:Zb (fun _=>False) w2 w2.drew:=(Zb.refl _ _).drew
      refine⟨0,[],O2,_,_,_,_,_,_,_,_,Nat.zero_le _,rfl,st1,?_,S3.out.keeps kd (fun _ _ e=>e) (fun e=>e) (fun e=>e) (fun e=>e),by simp,by simp⟩
      exact mJ _ _ _ _ JJ.out (kd.mono (fun _ _ e=>e.elim))
     case round =>
      rintro a wr ⟨i,ds,O',u5,u21,u22,u23,u24,u25,u26,u32,hi,rfl,st,hJ,hS,hnd,hds⟩
      have hsz1:=hb1.size
      have hszr:=st.keeps.size
      simp only[World.size_alloc] at hszr
      have gn:∀ b,O' b→O1 b∨w1.heap.size+1≤b:=fun b e=>by have:=st.gains b e;simpa using this
      have q1:¬ O' b1:=fun e=>(gn _ e).elim p1 (fun e=>by omega)
      have q2:¬ O' b2:=fun e=>(gn _ e).elim p2 (fun e=>by omega)
      have q3:¬ O' w1.heap.size:=fun e=>(gn _ e).elim p3 (fun e=>by omega)
      have qF:∀ b,F b→¬ O' b:=fun b hb e=>(gn _ e).elim (hF1 b hb) (fun e=>by have:=(hF b hb).1;omega)
      by_cases hil:i<x.ks.length
      · obtain⟨c,hc⟩:∃ c,x.ks[i]?=some c:=⟨_,List.getElem?_eq_getElem hil⟩
        have hcm:c∈x.ks:=List.mem_of_getElem? hc
        obtain⟨hcl,hch⟩:=hkid c hcm
        obtain⟨r2,hr2,ho2,_,_,g2,_⟩:=hS.forest.look hx
        have hrr:r2=r:=by rw[RH.out] at hr2;cases hr2;rfl
        subst hrr
        have hrow:=ho2.kids
        rw[hkv] at hrow
        rcases ZB hrow with ⟨_,hl0⟩|⟨g,cc,hv⟩
        · omega
        cases hv
        have cel:wr.cell? ⟨g,i,none⟩=some (.int .i64 (c:Int)):=by
         rw[hrow.cellAt i (by omega)]
         simp[Zg,hc]
        have hw:=hS.whose
        have hilI:(i:Int)<x.ks.length:=by omega
        have C:Hid (∀ n,CallsIn Fence.wide n _ _ _ _ _):=hid (fun n=>callsIn_wide.2 (JB bf c wr))
        have HS:=hid hS
        have HJ:=hid hJ
        have HST:=hid st
        have HDS:=hid hds
        have HND:=hid hnd
        have HC:=hid hc
        clear hS hJ hds hnd hc g2 hrow ho2 hr2 st
        gi_wp2_with (refine⟨trivial,?_⟩;gi_at_call 90;refine(C.out _).mono ?_;rintro e w3 ⟨rfl,rfl⟩)
        obtain⟨wb,hwb⟩:∃ wb,(wr.alloc (.cells #[ptr bf] 91)).alloc (.cells #[.int .i64 (c:Int)] 3)=wb:=⟨_,rfl⟩
        have hszb:wb.heap.size=wr.heap.size+2:=by rw[← hwb];simp
        have hkb:Zb (fun _=>False) wr wb:=by rw[← hwb];exact((Zb.refl _ _).alloc _).alloc _
        have SB:Seen s F bf bn cap pn n b1 b2 w1.heap.size l wb:=HS.out.keeps hkb (fun _ _ e=>e) (fun e=>e) (fun e=>e) (fun e=>e)
        have cb1:wb.cell? ⟨wr.heap.size+1,0,none⟩=some (.int .i64 (c:Int)):=by
         have:=Za (heap_alloc_new (wr.alloc (.cells #[ptr bf] 91)) (.cells #[.int .i64 (c:Int)] 3)) 0
         rw[hwb,World.size_alloc] at this
         exact this
        have cb2:wb.cell? ⟨wr.heap.size,0,none⟩=some (ptr bf):=by
         have:=(Zb.refl (fun _=>False) (wr.alloc (.cells #[ptr bf] 91))).alloc (.cells #[.int .i64 (c:Int)] 3)
         rw[hwb] at this
         exact this.cell (Za (heap_alloc_new wr _) 0) (fun e=>e)
        have hOr:∀ b,O' b→b<wr.heap.size:=HST.out.there
        rw[hwb]
        have hxs:(n::(x.ks.take i).flatMap (allF s k))++allF s k c <+: allF s (k+1) n:=by
         refine⟨(x.ks.drop (i+1)).flatMap (allF s k),?_⟩
         simp only[allF,Yp hx,List.cons_append]
         congr 1
         have e1:x.ks.take i++c::x.ks.drop (i+1)=x.ks:=by
          obtain⟨hil',hce⟩:=List.getElem?_eq_some_iff.1 HC.out
          rw[← hce,← List.drop_eq_getElem_cons,List.take_append_drop]
         conv=>rhs;rw[← e1]
         simp
        refine J4 (gf:=138) (lb:=#[ptr (wr.heap.size+1),ptr wr.heap.size]) rfl (enters_of Tryz.func138 (by kernel_rfl) rfl) rfl (O:=O') (fun b e=>by have:=hOr b e;omega)
         (ih c hcl (by omega) wb O' _ _ SB.forest (fun b hb=>⟨by have:=(hF b hb).1;omega,qF b hb⟩) cb1 cb2 (fun e=>by have:=hOr _ e;omega) (fun e=>by have:=hOr _ e;omega))
         (fun pre O3 W=>J ((n::(x.ks.take i).flatMap (allF s k))++pre) O3 W∧Stp O' O3 wb W) (fun pre O3 W=>Jx ((n::(x.ks.take i).flatMap (allF s k))++pre) O3 W∧Stp O' O3 wb W) ?mI ?mIx ?h0
         (fun y=>Act.mk #[Value.func (Fn.yield l) #[] #[],ptr b1,ptr b2,Value.pointer (some { block:=w1.heap.size,off:=0 }),undef,Value.int IntKind.i64 c,Value.int IntKind.i64 y,
           Value.func (Fn.yield l) #[] #[],Value.int IntKind.i64 n,Value.bool true,Value.bool false,ptr bf,
           Value.pointer (some { block:=bf,off:=0 }),Value.pointer (some { block:=bf,off:=0 }),
           Value.slice (some { block:=bn,off:=0 }) s.length cap,Value.int IntKind.i64 n,
           Value.pointer (some { block:=bn,off:=n*4 }),
           Value.pointer (some { block:=bn,off:=n*4+2 }),
           Value.slice (some { block:=g,off:=0 }) x.ks.length sc,Value.int IntKind.i64 x.ks.length,
           Value.int IntKind.i64 i,Value.bool true,Value.pointer (some { block:=g,off:=i }),
           Value.int IntKind.i64 c,ptr bf,Value.int IntKind.i64 c,Value.func (.func 138) #[] #[ptr (wr.heap.size+1),ptr wr.heap.size],Value.int IntKind.i64 y,undef,undef,undef,undef,u32] []) ?assign ?body ?done ?stop
        case mI =>
         rintro pre O3 X Y ⟨h1,h2⟩ hk
         exact⟨mJ _ _ _ _ h1 (hk.mono (fun k _ e=>⟨e.1,by have:=e.2;omega⟩)),XW (Nat.le_refl _) h2 hk⟩
        case mIx =>
         rintro pre O3 X Y ⟨h1,h2⟩ hk
         exact⟨mJx _ _ _ _ h1 (hk.mono (fun k _ e=>⟨e.1,by have:=e.2;omega⟩)),XW (Nat.le_refl _) h2 hk⟩
        case h0=>exact⟨by rw[List.append_nil];exact mJ _ _ _ _ HJ.out (hkb.mono (fun _ _ e=>e.elim)),Stp.refl (fun b e=>by have:=hOr b e;omega)⟩
        case assign =>
         intro m l' y W K hK
         dsimp only[encN]
         gi_wp2
         exact hK
        case body =>
         rintro m l' pre y O3 W hpre hO3 ⟨hJ3,st3⟩
         have f3:=(SB.keeps st3.keeps qF q1 q2 q3).yield
         obtain⟨fn2,tmps2,assign2,body2,hy2,hR2⟩:=hY (m - 1) _ y O3 W hJ3 (by rw[List.append_assoc];exact((List.prefix_append_right_inj _).2 hpre).trans hxs) hO3
         have HR2:Hid (RoundIn (Fence.wide.inRound l') _ _ _ _ _ _ _ _ _):=hid hR2
         have ST3:=hid st3
         dsimp only[encN] at hy2
         have hdd:∀ k:Nat,((Fence.wide.inRound l').depth.isSome=true→1≤k):=fun k h=>by simp[Fence.wide] at h
         clear hR2 hJ3 st3 hxs SB cb1 cb2 HJ HS HDS HND HST C S3 JJ ST RO RH
         gi_wp2_with ((try refine⟨hdd _,?_⟩);refine HR2.out.mono ?_;clear HR2;rintro e W4 ⟨O4,st4,(⟨rfl,hJ4⟩|⟨rfl,hX4⟩)⟩)
         · exact⟨O4,st4,by rw[← List.append_assoc];exact hJ4,ST3.out.trans st4⟩
         · exact⟨O4,st4,by rw[← List.append_assoc];exact hX4,ST3.out.trans st4⟩
        case done =>
         rintro O5 W st5 hn5 ⟨hJ5,_⟩ hD5
         have hk5:=st5.keeps
         have S5:=SB.keeps hk5 qF q1 q2 q3
         have stb:Stp O' O' wr wb:=by rw[← hwb];exact(Stp.alloc hOr _).trans (Stp.alloc (fun b e=>by have:=hOr b e;simp;omega) _)
         have HFIN:=hid (And.intro hJ5 (And.intro st5 (And.intro hn5 (And.intro hD5 S5))))
         clear hJ5 st5 hn5 hD5 S5 hk5 SB cb1 cb2
         gi_wp2
         obtain⟨hJ5,st5,hn5,hD5,S5⟩:=HFIN.out
         refine⟨⟨i+1,wb.heap.size::ds,O5,_,_,_,_,_,_,_,_,hil,rfl,HST.out.trans (stb.trans st5),?_,S5,?_,?_⟩,?_⟩
         · rw[List.take_add_one,HC.out]
           simpa using hJ5
         · refine List.nodup_cons.2 ⟨fun hm=>?_,HND.out⟩
           have:=Zc (HDS.out _ hm).2
           omega
         · intro D hm
           rcases List.mem_cons.1 hm with rfl|hm
           · exact⟨⟨by omega,hn5⟩,hD5⟩
           · obtain⟨⟨d1,d2⟩,d3⟩:=HDS.out D hm
             have hdl:=Zc d3
             refine⟨⟨d1,fun e=>(st5.gains D e).elim d2 (fun e=>by omega)⟩,?_⟩
             rw[st5.keeps.block D (by omega) d2,hkb.block D hdl (fun e=>e)]
             exact d3
         · show x.ks.length - ((i:Int)+1).toNat<x.ks.length - ((i:Int)).toNat
           omega
        case stop =>
         rintro O5 pre W hpre st5 hn5 ⟨hX5,_⟩ hD5
         have stb:Stp O' O' wr wb:=by rw[← hwb];exact(Stp.alloc hOr _).trans (Stp.alloc (fun b e=>by have:=hOr b e;simp;omega) _)
         gi_wp2
         have hds:∀ D∈wb.heap.size::ds,(w1.heap.size≤D∧¬ O5 D)∧W.heap[D]?=some (.deferred (some [])):=by
          intro D hm
          rcases List.mem_cons.1 hm with rfl|hm
          · exact⟨⟨by omega,hn5⟩,hD5⟩
          · obtain⟨⟨d1,d2⟩,d3⟩:=HDS.out D hm
            have hdl:=Zc d3
            refine⟨⟨by omega,fun e=>(st5.gains D e).elim d2 (fun e=>by omega)⟩,?_⟩
            rw[st5.keeps.block D (by omega) d2,hkb.block D hdl (fun e=>e)]
            exact d3
         have stA:=(Stp.alloc hlt (.cells #[.func (.yield l) #[] #[]] 83)).trans (HST.out.trans (stb.trans st5))
         refine Y9 (wb.heap.size::ds) _ (List.nodup_cons.2 ⟨fun hm=>?_,HND.out⟩) (fun D hm=>(hds D hm).2) (fun w' hk=>⟨_,results_none rfl _ _ _,⟨_,rfl⟩,O5,(Jf stA (fun D hm=>(hds D hm).1) hk).1,.inr ⟨_,?_,mJx _ _ _ _ hX5 (Jf stA (fun D hm=>(hds D hm).1) hk).2⟩⟩)
         · have:=Zc (HDS.out _ hm).2
           omega
         · exact((List.prefix_append_right_inj _).2 hpre).trans hxs
      · obtain rfl:i=x.ks.length:=by omega
        have hilI:¬ (x.ks.length:Int)<x.ks.length:=by omega
        have HJ:=hid hJ
        have HST:=hid st
        have HDS:=hid hds
        have HND:=hid hnd
        clear hJ st hds hnd hS
        gi_wp2
        have stA:=(Stp.alloc hlt (.cells #[.func (.yield l) #[] #[]] 83)).trans HST.out
        have hds2:∀ D∈ds,w1.heap.size≤D∧¬ O' D:=fun D hm=>⟨by have:=(HDS.out D hm).1.1;omega,(HDS.out D hm).1.2⟩
        refine Y9 ds _ HND.out (fun D hm=>(HDS.out D hm).2) (fun w' hk=>⟨_,results_none rfl _ _ _,⟨_,rfl⟩,O',(Jf stA hds2 hk).1,.inl ?_⟩)
        have:=mJ _ _ _ _ HJ.out (Jf stA hds2 hk).2
        rw[List.take_of_length_le (Nat.le_refl _)] at this
        rw[allF,Yp hx]
        exact this
   · gi_wp2
     refine Y9 [] _ (by simp) (by simp) (fun w' hk=>⟨_,results_none rfl _ _ _,⟨_,rfl⟩,O2,?_,.inr ⟨[n],⟨(ZD s n).flatMap (allF s k),rfl⟩,?_⟩⟩)
     · exact(Jf ((Stp.alloc hlt _).trans st2) (ds:=[]) (by simp) hk).1
     · exact mJx _ _ _ _ hX2 (Jf ((Stp.alloc hlt _).trans st2) (ds:=[]) (by simp) hk).2
end
end Go.Proofs.YtabogkonklplcaaGreatDoor
