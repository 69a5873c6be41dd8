import Derived.Test.YtabogkonklplcaaGreatDoorH14
import Derived.Deep.AppendLies
namespace Go.Proofs.YtabogkonklplcaaGreatDoor
set_option linter.unusedSimpArgs false
set_option linter.unusedVariables false
set_option maxRecDepth 20000
set_option maxHeartbeats 8000000
section
open Go.RowKit
section
variable {PD:PDT} {Q:Nat→Prop} {w0 w:World} {yb:Nat} {docs:List DocR} {own:Nat→Nat} {psv:Value}
theorem Inv.pushed (hPD:PDOk PD) (h:Inv PD Q w0 w yb docs own psv) {w1 w2 wA w3:World} {bx bd g' cap' A:Nat} (b1:Below w.heap.size w w1) (hA:w.heap.size≤A) (hA1:A≤w1.heap.size) (pd:PD w1 (fun b=>A≤b) bx ⟨[Z5],[]⟩)
 (b2:Below w1.heap.size w1 w2) (rd:RDoc w2 (fun b=>w1.heap.size≤b) bd [Z5] []) (bA:Below w2.heap.size w2 wA) (hz:w2.heap.size<wA.heap.size)
 (hg:wA.grownBy w3 psv.ownBlock) (ho:w3.ownsRow 0 44 2 (.slice (some ⟨g',0,none⟩) (docs.length+1) cap') (docs.length+1) ((docs.flatMap fun d=>[ptr d.bx,ptr d.bd])++[ptr bx,ptr bd]))
 (hgn:psv.ownBlock=some g'∨g'=wA.heap.size) :
 InvE PD Q w0 (w3.setCell ⟨yb,0,none⟩ (.slice (some ⟨g',0,none⟩) (docs.length+1) cap')) yb (docs++[⟨bx,bd,⟨[Z5],[]⟩⟩]):=by
 have z1:=b1.size
 have z2:=b2.size
 have zA:=bA.size
 have z3:=hg.size
 have hbl:=h.bl
 have hgl:g' < w3.heap.size:=(ho.lt g' rfl).2
 have hyb:yb<w.heap.size:=(h.ol yb (by rw[h.oy];decide)).2
 have hps:∀ b,psv.ownBlock=some b→b<w.heap.size∧own b=1∧b≠yb:=fun b e=>⟨(h.ol b (by rw[(h.ops b e).1];decide)).2,h.ops b e⟩
 have hgy:g'≠yb:=by
  rcases hgn with e|e
  · exact(hps g' e).2.2
  · omega
 have kA:Below w.heap.size w wA:=(b1.trans (b2.mono z1)).trans (bA.mono (by omega))
 have k3:Zb (fun b=>psv.ownBlock=some b) wA w3:=Zb.grown hg (fun k e=>.inl e)
 have kW:Zb (fun b=>psv.ownBlock=some b∨b=yb) wA (w3.setCell ⟨yb,0,none⟩ (.slice (some ⟨g',0,none⟩) (docs.length+1) cap')) :=
  (k3.mono (fun k _ e=>.inl e)).setCell (p:=⟨yb,0,none⟩) (.inl (.inr rfl)) _
 have zW:(w3.setCell ⟨yb,0,none⟩ (.slice (some ⟨g',0,none⟩) (docs.length+1) cap')).heap.size=w3.heap.size:=by simp
 have newK:∀ {F:Nat→Prop},(∀ b,F b→w.heap.size≤b)→∀ b,F b→¬ (psv.ownBlock=some b∨b=yb):=by
  intro F hF b hb e
  have:=hF b hb
  rcases e with e|e
  · have:=(hps b e).1;omega
  · omega
 refine⟨fun b=>if w.heap.size≤b then (if b=g' then 1 else if b<A then 0 else if b<w1.heap.size then 2*docs.length+2 else if b<w2.heap.size then 2*docs.length+3 else 0) else own b,.slice (some ⟨g',0,none⟩) (docs.length+1) cap',?_⟩
 have hg2:g' < w.heap.size∨w2.heap.size≤g':=by
  rcases hgn with e|e
  · exact .inl (hps g' e).1
  · exact .inr (by omega)
 refine⟨?_,?_,?_,?_,?_,?_,?_,?_⟩
 · obtain⟨l0,a0,y0,he,hq⟩:=h.play
   have e1:w3.heap[yb]?=_:=(k3.block yb (by omega) (fun e=>(hps yb e).2.2 rfl)).trans ((kA.block yb hyb).trans hq)
   refine⟨l0,a0,y0,he,?_⟩
   rw[heap_setCell_same w3 yb 0 _ _ _ e1];simp
 · rw[List.length_append,List.flatMap_append]
   simpa using XV ho (p:=⟨yb,0,none⟩) (by simp[Value.ownBlock];exact hgy) _
 · rw[if_neg (by omega)];exact h.oy
 · intro b e
   have e':g'=b:=by simpa[Value.ownBlock] using e
   subst e'
   refine⟨?_,hgy⟩
   rcases hgn with e|e
   · have:=hps g' e
     rw[if_neg (by omega)];exact this.2.1
   · rw[if_pos (by omega),if_pos rfl]
 · intro b e
   rw[zW]
   split at e
   · refine⟨hbl b (by omega),?_⟩
     split at e
     · rename_i hb;rw[hb];exact hgl
     · split at e
       · exact absurd rfl e
       · split at e
         · omega
         · split at e
           · omega
           · exact absurd rfl e
   · have:=h.ol b e
     exact⟨this.1,by omega⟩
 · intro b e;rw[zW] at e;exact hbl b (by omega)
 · refine(h.fr.trans (Zb.of_below kA)).trans (kW.mono (fun k _ e=>.inl ?_))
   rcases e with e|e
   · exact(h.ol k (by rw[(h.ops k e).1];decide)).1
   · rw[e];exact(h.ol yb (by rw[h.oy];decide)).1
 · intro i d hd
   by_cases hi:i<docs.length
   · rw[List.getElem?_append_left hi] at hd
     obtain⟨h1,h2,h3⟩:=h.doc i d hd
     have kA':=Zb.of_below (F:=fun _=>False) kA
     refine⟨hPD.wider (hPD.keeps (hPD.keeps h1 kA' (fun _ _ e=>e)) kW (fun b hb e=>?_)) (fun b hb=>?_),((h2.keeps kA' (fun _ _ e=>e)).keeps kW (fun b hb e=>?_)).wider (fun b hb=>?_),h3⟩
     · rcases e with e|e
       · have:=(hps b e).2.1;omega
       · rw[e,h.oy] at hb;omega
     · have:=(h.ol b (by omega)).2
       rw[if_neg (by omega)];exact hb
     · rcases e with e|e
       · have:=(hps b e).2.1;omega
       · rw[e,h.oy] at hb;omega
     · have:=(h.ol b (by omega)).2
       rw[if_neg (by omega)];exact hb
   · rw[List.getElem?_append_right (by omega)] at hd
     have hi1:=(List.getElem?_eq_some_iff.1 hd).1
     simp at hi1
     have ei:i=docs.length:=by omega
     subst ei
     simp at hd
     subst hd
     have p1:=hPD.narrow pd
     have p2:=hPD.keeps p1 (Zb.of_below (F:=fun _=>False) b2) (fun _ _ e=>e)
     have p3:=hPD.keeps p2 (Zb.of_below (F:=fun _=>False) bA) (fun _ _ e=>e)
     have p4:=hPD.keeps p3 kW (newK (fun b hb=>by omega))
     have r1:=rd.narrow
     have r2:=r1.keeps (Zb.of_below (F:=fun _=>False) bA) (fun _ _ e=>e)
     have r3:=r2.keeps kW (newK (fun b hb=>by omega))
     refine⟨hPD.wider p4 (fun b hb=>?_),r3.wider (fun b hb=>?_),hPD.root⟩
     · rw[if_pos (by omega),if_neg (by omega),if_neg (by omega),if_pos (by omega)]
     · rw[if_pos (by omega),if_neg (by omega),if_neg (by omega),if_neg (by omega),if_pos (by omega)]
end
theorem Tryz.info44:(Tryz.prog.info? 44).map (fun i=>(i.zero,i.size,i.bytes))=some (some (.agg #[.pointer none,.pointer none]),2,16):=by kernel_rfl
section
variable {PD:PDT} {G:World→Prop} {Q:Nat→Prop} {w0 w:World} {yb:Nat} {docs:List DocR}
theorem step_new (hPD:PDOk PD) (h:InvE PD Q w0 w yb docs) (hG:∀ W,Zb Q w0 W→G W) (hnew:NewOk PD G) (D A B C:Int) (S:ByteArray) (p0 p1 q0 q1:Int) (hdl:docs.length < lots) :
 Calls Tryz.prog 15 #[ptr yb,opV 1 D A B C S p0 p1 q0 q1] w (YI PD Q w0 yb (docs.length+1) (docs.length+1)):=by
 obtain⟨i0,hi,hz0,hz1,hz2⟩:=info_parts Tryz.info44
 obtain⟨own,psv,h⟩:=h
 obtain⟨a,c,hv⟩:=Zo h.row
 obtain⟨l0,a0,y0,-,hq⟩:=h.play
 have hl:=Zc hq
 have hB:Below w.heap.size w (w.alloc (.cells (Xb 1 D A B C S p0 p1 q0 q1) 39)):=(Below.refl _ w).alloc (Nat.le_refl _) _
 have CN:=hid (hnew (w.alloc (.cells (Xb 1 D A B C S p0 p1 q0 q1) 39)) (hG _ (h.fr.trans (Zb.of_below hB))))
 have HQ:=hid hq
 have HI:=hid h
 have HPD:=hid hPD
 have HB:=hid hB
 have HV:=hid hv
 have HDL:=hid hdl
 clear hq h hPD hB hv hnew hG hdl
 go_enter Tryz.func15,Tryz.ntmps15
 go_wp2_with (
  go_at_call 40
  refine CN.out.mono ?_
  clear CN
  rintro e w1 ⟨bx,rfl,b1,pd⟩
  have hbb:Below w.heap.size w w1:=HB.out.trans (b1.mono (by simp))
  have hq1:=(hbb.block yb hl).trans HQ.out
  have c1:w1.cell? ⟨yb,0,none⟩=some (.slice a docs.length c):=by rw[← HV.out];exact Za hq1 0
  have l1:yb<w1.heap.size:=Zc hq1
  have HQ1:=hid hq1
  have B1:=hid hbb
  have PDx:=hid pd
  have ZA:=hid b1.size
  clear hbb pd hq1 b1)
 go_cut [] from 7 to 74 (fun wc=>∃ docs',InvE PD Q w0 wc yb docs'∧docs'.length=docs.length+1)
 case first =>
  go_region_law (first
   | (refine step_append_lies _ rfl (.tmp 15) (.tmp 19) 27 rfl 0 44 i0 _ 2 16 Tryz.underlying27 hi hz0 hz1 hz2 rfl (by decide) (.slice a docs.length c) docs.length _ (by simp[Act.eval,Act.put]) HROW.out ⟨w2.heap.size,0,none⟩ 1 1 [ptr bx,ptr bd] (by simp[Act.eval,Act.put]) rfl SRC.out (by simp[Value.oneCell']) (by decide) (by unfold maxLen;have:=HDL.out;unfold lots at this;omega) (by have:=HDL.out;unfold lots at this;omega) (Nat.zero_le _) (w2.heap.size+1) (by simp) ?_
      intro g cap' w3 ho hg hgn _
      have hd3:=(hg.block yb (by simp only[World.size_alloc];have:=Zc HQ2.out;omega) YN.out).trans ((Below.heap_alloc _ _ _ (Zc HQ2.out)).trans HQ2.out)
      have c3:w3.cell? ⟨yb,0,none⟩=some psv:=Za hd3 0
      have f3:=Zd hd3 0
      have HG3:=hid hg
      have HO3:=hid ho
      have HN3:=hid hgn
      clear hd3 hg ho hgn)
   | (go_simp
      go_at_call 41
      refine(rnew_any _).mono ?_
      rintro e w2 ⟨bd,rfl,b2,rd⟩
      have hq2:=(b2.block yb (Zc HQ1.out)).trans HQ1.out
      have c2:w2.cell? ⟨yb,0,none⟩=some (.slice a docs.length c):=by rw[← HV.out];exact Za hq2 0
      have l2:yb<w2.heap.size:=Zc hq2
      have HQ2:=hid hq2
      have hb2:Below w1.heap.size w1 w2:=⟨b2.os,b2.tape,b2.output,b2.size,b2.block⟩
      have hrow:(w2.alloc (.cells #[ptr bx,ptr bd] 44)).ownsRow 0 44 2 (.slice a docs.length c) docs.length (docs.flatMap fun d=>[ptr d.bx,ptr d.bd]):=by
       rw[← HV.out]
       exact(Zb.of_below (F:=fun _=>False) (((B1.out.trans (hb2.mono B1.out.size)).alloc (by have:=B1.out.size;have:=hb2.size;omega) _))).row HI.out.row (fun _ _ e=>e)
      have HROW:=hid hrow
      have src:=World.news_of_block (heap_alloc_new w2 (.cells #[ptr bx,ptr bd] 44))
      have SRC:=hid src
      have YN:Hid (some yb≠(Value.slice a docs.length c).ownBlock):=by rw[← HV.out];intro e;exact(HI.out.ops yb e.symm).2 rfl
      have B2:=hid hb2
      have RD:=hid rd
      clear hq2 hb2 b2 rd hrow src))
  all_goals
   go_wp2_with fail
   go_meet
   case rel =>
    refine⟨docs++[⟨bx,bd,⟨[Z5],[]⟩⟩],HI.out.pushed HPD.out (A:=(w.alloc (.cells (Xb 1 D A B C S p0 p1 q0 q1) 39)).heap.size) B1.out (by simp) ZA.out PDx.out B2.out RD.out ((Below.refl _ w2).alloc (Nat.le_refl _) _) (by simp) (by rw[HV.out];exact HG3.out) HO3.out ?_,by simp⟩
    rcases HN3.out with e|e
    · exact .inl (by rw[HV.out];exact e)
    · exact .inr (by simpa using e)
 case rest =>
  obtain⟨docs',hI',hl'⟩:=hcut
  have HI':=hid hI'
  clear hI'
  go_wp2
  go_ret
  exact⟨by simp,docs',HI'.out,by omega,by omega⟩
end
end
section
open Go.RowKit
structure OpR where
 kind:Int
 D:Int
 A:Int
 B:Int
 C:Int
 S:ByteArray
 p0:Int
 p1:Int
 q0:Int
 q1:Int
abbrev OpR.cells (o:OpR):List Value:=[.int .i64 o.kind,.int .i64 o.D,.int .i64 o.A,.int .i64 o.B,.int .i64 o.C,.string o.S,.int .i64 o.p0,.int .i64 o.p1,.int .i64 o.q0,.int .i64 o.q1]
abbrev OpR.val (o:OpR):Value:=opV o.kind o.D o.A o.B o.C o.S o.p0 o.p1 o.q0 o.q1
structure OpOk (o:OpR):Prop where
 d1:-9223372036854775808≤o.D
 d2:o.D≤9223372036854775807
 s:o.S.size<lots
def YR:List OpR:=[⟨1,0,0,0,0,⟨#[]⟩,0,0,0,0⟩,⟨2,0,0,0,0,⟨#[]⟩,0,0,0,0⟩,⟨3,0,0,0,0,⟨#[97,98,99,100]⟩,0,0,0,0⟩,⟨4,0,0,1,0,⟨#[]⟩,0,0,0,0⟩,⟨4,0,1,2,0,⟨#[]⟩,0,0,0,0⟩]
theorem Zf0:∀ o∈YR,OpOk o∧1≤o.kind∧o.kind≤4:=by
 intro o ho
 simp only[YR,List.mem_cons,List.not_mem_nil,or_false] at ho
 rcases ho with rfl|rfl|rfl|rfl|rfl <;> exact⟨⟨by decide,by decide,by decide⟩,by decide,by decide⟩
theorem head_any (w:World) :
 Calls Tryz.prog 17 #[] w fun e w'=>e=.returned (.slice (some ⟨w.heap.size,0,none⟩) 5 5)∧w'=w.alloc (.cells (YR.flatMap OpR.cells).toArray 39):=by
 go_enter Tryz.func17,Tryz.ntmps17
 go_wp2
 go_ret
 exact⟨rfl,rfl⟩
theorem ZgZ (l:List OpR) (i:Nat) (o:OpR) (h:l[i]?=some o) (j:Nat) (hj:j < 10):(l.flatMap OpR.cells)[i * 10+j]?=o.cells[j]?:=by
 induction l generalizing i with
 | nil=>simp at h
 | cons a l ih =>
   cases i with
   | zero =>
     simp at h;subst h
     rw[List.flatMap_cons,Nat.zero_mul,Nat.zero_add,List.getElem?_append_left (by simpa using hj)]
   | succ i =>
     have e:(i+1)*10+j=(i*10+j)+10:=by omega
     rw[e,List.flatMap_cons,List.getElem?_append_right (by simp)]
     simpa using ih i (by simpa using h)
def Ju (w:World) (g off:Nat) (l:List OpR):Prop:=∀ (i:Nat) (o:OpR),l[i]?=some o→∀ (j:Nat) (u:Value),o.cells[j]?=some u→w.cell? ⟨g,off+i * 10+j,none⟩=some u
def Jy (PD:PDT) (Q:Nat→Prop) (w0:World) (yb:Nat) (K:Int→Prop):Prop :=
 ∀ (o:OpR),OpOk o→K o.kind→∀ (W:World) (docs:List DocR),InvE PD Q w0 W yb docs→docs.length<lots →
  Calls Tryz.prog 15 #[ptr yb,o.val] W (YI PD Q w0 yb docs.length (docs.length+1))
def JZ (n:Nat) (v:Value):Nat:=n - (intOf v).toNat
theorem Zg6 {PD:PDT} {w:World} (a:Option Addr) (g off c gk ck:Nat) (script:List OpR) (ks:List Int) (ha:0 < script.length→a=some ⟨g,off,none⟩) (hs:Ju w g off script) (hok:∀ o∈script,OpOk o) (hlen:script.length+6 < lots) (hgl:0 < script.length→g < w.heap.size)
 (hk:w.ownsRow 0 3 1 (.slice (some ⟨gk,0,none⟩) ks.length ck) ks.length (ks.map (fun k=>Value.int .i64 k))) (hkb:ks.length<100)
 (hst:Jy PD (fun b=>b=w.heap.size∨w.heap.size+1+1≤b) ((w.alloc (.cells #[.slice none 0 0,.nilIface,.int .i64 0,.int .i64 0] 34)).alloc (.cells (YR.flatMap OpR.cells).toArray 39)) w.heap.size (fun k=>(1≤k∧k≤4)∨k∈ks))
 (hPD:PDOk PD) :
 Calls Tryz.prog 14 #[.slice a script.length c,.slice (some ⟨gk,0,none⟩) ks.length ck] w fun e w'=>e=.returned (.bool true)∧Below w.heap.size w w':=by
 obtain⟨W0,hW0⟩:∃ W,W=(w.alloc (.cells #[.slice none 0 0,.nilIface,.int .i64 0,.int .i64 0] 34)).alloc (.cells (YR.flatMap OpR.cells).toArray 39):=⟨_,rfl⟩
 have hz0:W0.heap.size=w.heap.size+1+1:=by rw[hW0];simp
 have hbW:Below w.heap.size w W0:=by rw[hW0];exact((Below.refl _ w).alloc (Nat.le_refl _) _).alloc (by simp) _
 have hqy:W0.heap[w.heap.size]?=some (.cells #[.slice none 0 0,.nilIface,.int .i64 0,.int .i64 0] 34 (0,0)):=by rw[hW0,Below.heap_alloc _ _ _ (by simp),heap_alloc_new]
 have hqh:W0.heap[w.heap.size+1]?=some (.cells (YR.flatMap OpR.cells).toArray 39 (0,0)):=by
  have:=heap_alloc_new (w.alloc (.cells #[.slice none 0 0,.nilIface,.int .i64 0,.int .i64 0] 34)) (.cells (YR.flatMap OpR.cells).toArray 39)
  rw[hW0]
  simpa using this
 have inv0:InvE PD (fun b=>b=w.heap.size∨w.heap.size+1+1≤b) W0 W0 w.heap.size []:=by
  refine⟨fun b=>if b=w.heap.size then 1 else 0,.slice none 0 0,⟨_,0,0,rfl,hqy⟩,World.ownsRow_nil _ _ _ _,by simp,fun b e=>(by cases e),fun b e=>?_,fun b e=>.inr (by omega),Zb.refl _ _,fun i d h=>(by simp at h)⟩
  have:b=w.heap.size:=by
   rcases Classical.em (b=w.heap.size) with e1|e1
   · exact e1
   · simp[e1] at e
  exact⟨.inl this,by omega⟩
 have HEADAT:Hid (∀ W,Zb (fun b=>b=w.heap.size∨w.heap.size+1+1≤b) W0 W→Ju W (w.heap.size+1) 0 YR):=by
  intro W hk i o ho j u hu
  have hj:j<10:=by have:=(List.getElem?_eq_some_iff.1 hu).1;simpa using this
  refine hk.cell (p:=⟨w.heap.size+1,0+i*10+j,none⟩) ?_ (by simp only;omega)
  rw[Za hqh]
  have:=ZgZ YR i o ho j hj
  rw[hu] at this
  simpa using this
 have SCRAT:Hid (∀ W,Zb (fun b=>b=w.heap.size∨w.heap.size+1+1≤b) W0 W→Ju W g off script):=by
  intro W hk i o ho j u hu
  have hgl:=hgl (by have:=(List.getElem?_eq_some_iff.1 ho).1;omega)
  refine hk.cell (p:=⟨g,off+i*10+j,none⟩) ?_ (by simp only;omega)
  exact(hbW.cell (p:=⟨g,off+i*10+j,none⟩) hgl).trans (hs i o ho j u hu)
 have KROW:Hid (∀ W,Zb (fun b=>b=w.heap.size∨w.heap.size+1+1≤b) W0 W→W.ownsRow 0 3 1 (.slice (some ⟨gk,0,none⟩) ks.length ck) ks.length (ks.map (fun k=>Value.int .i64 k))):=by
  intro W hkk
  have h1:=(Zb.of_below (F:=fun _=>False) hbW).row hk (fun _ _ e=>e)
  refine hkk.row h1 (fun b e e2=>?_)
  have e':gk=b:=by simpa[Value.ownBlock] using e
  subst e'
  have:=(hk.lt gk rfl).2
  omega
 rw[← hW0] at hst
 have HST:=hid hst
 have HPD:=hid hPD
 have HOK:=hid hok
 have INV0:=hid inv0
 have HBW:=hid hbW
 have HAA:=hid ha
 unfold lots at hlen
 clear ha hgl hst hPD hok inv0 hbW hqy hqh hs hk
 go_enter Tryz.func14,Tryz.ntmps14
 go_wp2_with (go_at_call 17;refine(head_any _).mono ?_;rintro e w' ⟨rfl,rfl⟩)
 rw[← hW0]
 clear hW0
 go_loopw [7] (fun t wr=>∃ (j:Nat) (docs:List DocR),j≤5∧t=.int .i64 j∧InvE PD (fun b=>b=w.heap.size∨w.heap.size+1+1≤b) W0 wr w.heap.size docs∧docs.length≤j) (fun t _=>JZ 5 t)
 case atStart=>exact⟨0,[],by omega,rfl,INV0.out,by simp⟩
 case round =>
  obtain⟨j,docs,hj,rfl,hinv,hdl⟩:=hrel
  by_cases hlt:j<5
  · obtain⟨o,ho⟩:∃ o,YR[j]?=some o:=⟨_,List.getElem?_eq_getElem (show j<YR.length from hlt)⟩
    have hoo:=Zf0 o (List.mem_of_getElem? ho)
    have hat:=(by obtain⟨own,psv,hI⟩:=hinv;exact HEADAT.out wr hI.fr j o ho:∀ (q:Nat) (u:Value),o.cells[q]?=some u→wr.cell? ⟨w.heap.size+1,0+j*10+q,none⟩=some u)
    have e0:wr.cell? ⟨w.heap.size+1,j*10,none⟩=some (.int .i64 o.kind):=by simpa using hat 0 _ rfl
    have e1:wr.cell? ⟨w.heap.size+1,j*10+1,none⟩=some (.int .i64 o.D):=by simpa using hat 1 _ rfl
    have e2:wr.cell? ⟨w.heap.size+1,j*10+2,none⟩=some (.int .i64 o.A):=by simpa using hat 2 _ rfl
    have e3:wr.cell? ⟨w.heap.size+1,j*10+3,none⟩=some (.int .i64 o.B):=by simpa using hat 3 _ rfl
    have e4:wr.cell? ⟨w.heap.size+1,j*10+4,none⟩=some (.int .i64 o.C):=by simpa using hat 4 _ rfl
    have e5:wr.cell? ⟨w.heap.size+1,j*10+5,none⟩=some (.string o.S):=by simpa using hat 5 _ rfl
    have e6:wr.cell? ⟨w.heap.size+1,j*10+6,none⟩=some (.int .i64 o.p0):=by simpa using hat 6 _ rfl
    have e7:wr.cell? ⟨w.heap.size+1,j*10+7,none⟩=some (.int .i64 o.p1):=by simpa using hat 7 _ rfl
    have e8:wr.cell? ⟨w.heap.size+1,j*10+8,none⟩=some (.int .i64 o.q0):=by simpa using hat 8 _ rfl
    have e9:wr.cell? ⟨w.heap.size+1,j*10+9,none⟩=some (.int .i64 o.q1):=by simpa using hat 9 _ rfl
    have CS:=hid (HST.out o hoo.1 (.inl hoo.2) wr docs hinv (by unfold lots;omega))
    clear hat ho hoo hinv
    go_wp2_with (go_at_call 15;refine CS.out.mono ?_;clear CS;rintro e w3 ⟨rfl,docs',hI',hm',hl'⟩;have HI':=hid hI';clear hI')
    refine⟨⟨j+1,docs',by omega,by go_num,HI'.out,by omega⟩,by simp[JZ,intOf];omega⟩
  · have HINV:=hid hinv
    clear hinv
    go_wp2
    go_loopw [9] (fun t wr=>∃ (i:Nat) (docs:List DocR),i≤script.length∧t=.int .i64 i∧InvE PD (fun b=>b=w.heap.size∨w.heap.size+1+1≤b) W0 wr w.heap.size docs∧docs.length≤i+5) (fun t _=>JZ script.length t)
    case atStart=>exact⟨0,docs,by omega,rfl,HINV.out,by omega⟩
    case round =>
     obtain⟨i,docs2,hi,rfl,hinv,hdl2⟩:=hrel
     by_cases hlt2:i<script.length
     · have haa:=HAA.out (by omega)
       subst haa
       obtain⟨o,ho⟩:∃ o,script[i]?=some o:=⟨_,List.getElem?_eq_getElem hlt2⟩
       have hoo:=HOK.out o (List.mem_of_getElem? ho)
       have hfr:=(by obtain⟨own,psv,hI⟩:=hinv;exact hI.fr:Zb (fun b=>b=w.heap.size∨w.heap.size+1+1≤b) W0 wr)
       have hat:=SCRAT.out wr hfr i o ho
       have e0:wr.cell? ⟨g,off+i*10,none⟩=some (.int .i64 o.kind):=by simpa using hat 0 _ rfl
       have e1:wr.cell? ⟨g,off+i*10+1,none⟩=some (.int .i64 o.D):=by simpa using hat 1 _ rfl
       have e2:wr.cell? ⟨g,off+i*10+2,none⟩=some (.int .i64 o.A):=by simpa using hat 2 _ rfl
       have e3:wr.cell? ⟨g,off+i*10+3,none⟩=some (.int .i64 o.B):=by simpa using hat 3 _ rfl
       have e4:wr.cell? ⟨g,off+i*10+4,none⟩=some (.int .i64 o.C):=by simpa using hat 4 _ rfl
       have e5:wr.cell? ⟨g,off+i*10+5,none⟩=some (.string o.S):=by simpa using hat 5 _ rfl
       have e6:wr.cell? ⟨g,off+i*10+6,none⟩=some (.int .i64 o.p0):=by simpa using hat 6 _ rfl
       have e7:wr.cell? ⟨g,off+i*10+7,none⟩=some (.int .i64 o.p1):=by simpa using hat 7 _ rfl
       have e8:wr.cell? ⟨g,off+i*10+8,none⟩=some (.int .i64 o.q0):=by simpa using hat 8 _ rfl
       have e9:wr.cell? ⟨g,off+i*10+9,none⟩=some (.int .i64 o.q1):=by simpa using hat 9 _ rfl
       have CI:=hid (in_any o.kind gk ck ks wr (KROW.out wr hfr) hkb)
       have HINV2:=hid hinv
       have HOO:=hid hoo
       clear hat ho hoo hinv hfr
       cases hc:ks.contains o.kind with
       | true =>
         rw[hc] at CI
         have CS:=hid (HST.out o HOO.out (.inr (by simpa using hc)) wr docs2 HINV2.out (by unfold lots;omega))
         clear hc
         go_wp2_with (first
          | (go_at_call 39;refine CI.out.mono ?_;clear CI;rintro e w3 ⟨rfl,rfl⟩)
          | (go_at_call 15;refine CS.out.mono ?_;clear CS;rintro e w3 ⟨rfl,docs',hI',hm',hl'⟩;have HI':=hid hI';clear hI'))
         exact⟨⟨i+1,docs',by omega,by go_num,HI'.out,by omega⟩,by simp[JZ,intOf];omega⟩
       | false =>
         rw[hc] at CI
         clear hc
         go_wp2_with (go_at_call 39;refine CI.out.mono ?_;clear CI;rintro e w3 ⟨rfl,rfl⟩)
         exact⟨⟨i+1,docs2,by omega,by go_num,HINV2.out,by omega⟩,by simp[JZ,intOf];omega⟩
     · have HINV2:=hid hinv
       clear hinv
       go_wp2
       go_ret
       refine⟨rfl,?_⟩
       obtain⟨own,psv,hI⟩:=HINV2.out
       have hk:=hI.fr
       have hz:=HBW.out.size
       exact HBW.out.trans ⟨hk.os,hk.tape,hk.output,hk.size,fun k hk2=>hk.block k (by omega) (by omega)⟩
end
section
open Go.RowKit
structure Answers (PD:PDT) (G:World→Prop):Prop where
 pd:PDOk PD
 gb:∀ w w',G w→Below w.heap.size w w'→G w'
 new:NewOk PD G
 element:∀ s,PD.ok s→∃ n:Int,Ans PD G s 52 73 [] (fun v=>.tuple #[.int .i64 n,v]) (fun v=>.tuple #[.int .i64 n,v])
 text:∀ s,PD.ok s→∀ S:ByteArray,S.size<lots→∃ n:Int,Ans PD G s 53 74 [.string S] (fun v=>.tuple #[.int .i64 n,v]) (fun v=>.tuple #[.int .i64 n,v])
 insert:∀ s,PD.ok s→∀ A B C:Int,Ans PD G s 54 75 [.int .i64 A,.int .i64 B,.int .i64 C] (fun v=>v) (fun v=>v)
 remove:∀ s,PD.ok s→∀ A:Int,Ans PD G s 60 76 [.int .i64 A] (fun v=>v) (fun v=>v)
 shown:∀ s,PD.ok s→∀ A:Int,∃ b:ByteArray,Ans PD G s 55 77 [.int .i64 A] (fun v=>.tuple #[.string b,v]) (fun v=>.tuple #[.string b,v])
theorem Zif {PD:PDT} {G:World→Prop} (hA:Answers PD G) {Q:Nat→Prop} {w0:World} {yb:Nat} (hG:∀ W,Zb Q w0 W→G W) (o:OpR) (ho:OpOk o) (hk:2≤o.kind∧o.kind≤6) (W:World) (docs:List DocR) (hI:InvE PD Q w0 W yb docs) (hdl:docs.length < lots) :
 Calls Tryz.prog 15 #[ptr yb,o.val] W (YI PD Q w0 yb docs.length docs.length):=by
 obtain⟨kind,D,A,B,C,S,p0,p1,q0,q1⟩:=o
 obtain⟨d1,d2,hs⟩:=ho
 simp only at d1 d2 hs hk
 by_cases h0:docs.length=0
 · exact Za1 hA.pd hI kind D A B C S p0 p1 q0 q1 (by omega) (.inl h0)
 refine Zic hA.pd hI kind D A B C S p0 p1 q0 q1 (by omega) hk.2 (by omega) hdl d1 d2 (fun W1 own psv i d hd hI1=>?_)
 have hp:=hI1.pair hd
 have hwf:=(hI1.doc i d hd).2.2
 have hg:=hG _ hI1.fr
 have hc:kind=2∨kind=3∨kind=4∨kind=5∨kind=6:=by omega
 rcases hc with rfl|rfl|rfl|rfl|rfl
 · exact ZgL hA.pd hA.gb hp hg D A B C S p0 p1 q0 q1 (hA.element d.s hwf)
 · exact ZgP hA.pd hA.gb hp hg D A B C S p0 p1 q0 q1 (hA.text d.s hwf S hs)
 · exact ZgM hA.pd hA.gb hp hg D A B C S p0 p1 q0 q1 (hA.insert d.s hwf A B C)
 · exact ZgN hA.pd hA.gb hp hg D A B C S p0 p1 q0 q1 (hA.remove d.s hwf A)
 · exact ZgO hA.pd hA.gb hp hg D A B C S p0 p1 q0 q1 (hA.shown d.s hwf A)
theorem steps_of {PD:PDT} {G:World→Prop} (hA:Answers PD G) {Q:Nat→Prop} {w0:World} {yb:Nat} (hG:∀ W,Zb Q w0 W→G W):Jy PD Q w0 yb (fun k=>1≤k∧k≤6):=by
 intro o ho hk W docs hI hdl
 by_cases h1:o.kind=1
 · obtain⟨kind,D,A,B,C,S,p0,p1,q0,q1⟩:=o
   simp only at h1
   subst h1
   refine(step_new hA.pd hI hG hA.new D A B C S p0 p1 q0 q1 hdl).mono ?_
   rintro e w' ⟨he,docs',h,hm,hl⟩
   exact⟨he,docs',h,by omega,hl⟩
 · refine(Zif hA hG o ho ⟨by omega,hk.2⟩ W docs hI hdl).mono ?_
   rintro e w' ⟨he,docs',h,hm,hl⟩
   exact⟨he,docs',h,hm,by omega⟩
end
end Go.Proofs.YtabogkonklplcaaGreatDoor
