import Derived.Test.YtabogkonklplcaaGreatDoorJ39
import Derived.Test.YtabogkonklplcaaGreatDoorJ24
namespace Go.Proofs.YtabogkonklplcaaGreatDoor
set_option linter.unusedSimpArgs false
set_option linter.unusedVariables false
set_option maxRecDepth 20000
set_option maxHeartbeats 8000000
section
open Go.RowKit
section
variable {w:World} {F:Nat→Prop} {bd bn cap:Nat} {rn:List RN} {rv:Value} {s:List Nd} {rs:List Sp}
theorem ZhL (hD:Zf w F bd bn cap rn rv s rs) (n k:Nat) (x:Nd) (hx:s[n]?=some x) (ht:x.t=true) (hlen:x.cs.length≤30) (hk:k≤x.cs.length) (h40:s.length < 40) (j m:Nat) (y:Nd) (hpj:x.p=j) (hy:s[j]?=some y) (hm:y.ks[m]?=some n) (hno:n∉y.ks.take m) (hkb:y.ks.length < lots) (hnj:n≠j) (hsm:Small rs) (hsm2:Small (rs.map (mvSp (Zp n k s.length (Ze j m 1))))) (h6:rs.length≤6) :
 Calls Tryz.prog 79 #[.pointer (some ⟨bd,0,none⟩),.int .i64 n,.int .i64 k] w fun e w'=>e=.returned (.tuple #[.int .i64 s.length,Zi 0 0])∧Zb F w w' ∧
  RDoc w' (fun b=>F b∨w.heap.size≤b) bd (((s++[(⟨true,x.cs.drop k,[],(j:Int)⟩:Nd)]).set j { y with ks:=y.ks.take (m+1)++s.length::y.ks.drop (m+1) }).set n { x with cs:=x.cs.take k }) ((rs.map (mvSp (Zp n k s.length (Ze j m 1)))).map (mvSp (Zl n k ((x.cs.length - k:Nat):Int) 0))):=by
 obtain⟨i0,hi,hz0,hz1,hz2⟩:=info_parts Tryz.info9
 obtain⟨j0,hj,jz0,jz1,jz2⟩:=info_parts Tryz.info119
 have hn:n<s.length:=(List.getElem?_eq_some_iff.1 hx).1
 have CF:=hid (XX (hD.below (Z1 w)) n k x hx ht hk)
 have h1b:((0:Int) == 0)=true:=rfl
 have h40b:decide ((40:Int)≤(s.length:Int))=false:=decide_eq_false (by omega)
 have h0:=hD.nodesCell
 have hlt:=hD.lt
 have hlenE:=hD.len
 have hjl:j<s.length:=(List.getElem?_eq_some_iff.1 hy).1
 have hml:m<y.ks.length:=(List.getElem?_eq_some_iff.1 hm).1
 have hkb':=hkb
 unfold lots at hkb'
 have HY:=hid (And.intro hy (And.intro hm (And.intro hno hkb)))
 have q1:IntKind.i64.wrap ((m:Int)+1)=(m:Int)+1:=by rw[IntKind.wrap_i64];omega
 obtain⟨r,hr,ho,-,hc1,-,hc3⟩:=hD.look hx
 rw[hpj] at hc3
 have HPJ:=hid hpj
 clear hpj
 obtain⟨ta,tc,hsl,hsrc⟩:=Zeh (t:=107) Tryz.underlying107 Tryz.elem107 Tryz.sizeOf9 ho.chars (Jp _) k hk (fun w=>by kernel_rfl)
 obtain⟨ca,cc,hcv⟩:=Zo ho.chars
 rw[hcv] at hc1 hsl hsrc
 have HROW:=hid ho.chars
 rw[hcv] at HROW
 have HSRC:=hid hsrc
 have HTB:=hid (Z1 w)
 have HD:=hid hD
 have HSM:=hid hsm
 have HSM2:=hid hsm2
 clear hsm hsm2
 have HX:=hid hx
 clear hD hr ho hcv hx ht hsrc hy hm hno hkb
 go_enter Tryz.func79,Tryz.ntmps79
 go_wp2_with (first
  | (go_at_call 123;refine CF.out.mono ?_;rintro e w1 ⟨rfl,hb1⟩
     have hq2:w1.heap[w.heap.size]?=some (.cells #[.int .i64 0,.int .i64 0] 32 (0,0)):=by
      rw[hb1.block _ (by simp)]
      exact heap_alloc_new w _
     have hs1:w.heap.size+1≤w1.heap.size:=by have:=hb1.size;simpa using this
     have HB1:=hid (HTB.out.trans (hb1.mono HTB.out.size))
     have HQ2:=hid hq2
     clear hb1 hq2)
  | (go_at_call 124;refine(Zy 0 0 _).mono ?_;rintro e w2 ⟨rfl,hb2⟩
     have hf2:w2.heap[w1.heap.size]?=some (.cells #[.int .i64 0,.int .i64 0] 32 (0,0)):=(hb2.block _ (by simp)).trans (heap_alloc_new w1 _)
     have hz2:w2.heap[w.heap.size]?=some (.cells #[.int .i64 0,.int .i64 0] 32 (0,0)) :=
      (hb2.block _ (by simp;omega)).trans ((((Below.refl _ w1).alloc (Nat.le_refl _) _).block _ (by omega)).trans HQ2.out)
     have cf0:w2.cell? ⟨w1.heap.size,0,none⟩=some (.int .i64 0):=Za hf2 0
     have cf1:w2.cell? ⟨w1.heap.size,1,none⟩=some (.int .i64 0):=Za hf2 1
     have cz0:w2.cell? ⟨w.heap.size,0,none⟩=some (.int .i64 0):=Za hz2 0
     have cz1:w2.cell? ⟨w.heap.size,1,none⟩=some (.int .i64 0):=Za hz2 1
     have fz0:=Zd hz2 0
     have fz1:=Zd hz2 1
     have HB2:=hid ((HB1.out.alloc HB1.out.size _).trans (hb2.mono (Nat.le_trans HB1.out.size (by simp))))
     have hs2:w.heap.size+1≤w2.heap.size:=by have:=hb2.size;simp at this;omega
     clear hb2
     have HZ:=hid hz2
     have d0:=(HB2.out.cell (p:=⟨bd,0,none⟩) hlt.1).trans h0
     have d1:=(HB2.out.cell (p:=⟨bn,n*4+1,none⟩) hlt.2).trans hc1
     have d3:=(HB2.out.cell (p:=⟨bn,n*4+3,none⟩) hlt.2).trans hc3
     have S2:=hid (HSRC.out w2 ((Zb.of_below (F:=fun _=>False) HB2.out).row HROW.out (fun _ _ e=>e)))
     have HF:=hid (And.intro hf2 hf2)
     clear hz2
     rw[h1b])
  | (at_builtin;refine X1 _ rfl (.tmp 32) (.tmp 42) 107 rfl w2.heap.size 9 i0 (.string ByteArray.empty) 1 16 Tryz.underlying107 hi hz0 hz1 hz2 rfl (by decide) (.slice none 0 0) 0 [] rfl (World.ownsRow_nil _ _ _ _) _ _ _ rfl S2.out (by unfold maxLen;omega) (by omega) (Nat.le_refl _) ?_
     intro v1 w3 ho1 hb1
     obtain⟨va,vc,hv1⟩:=Zo ho1
     subst hv1
     have hh:=HB2.out.trans (hb1.mono HB2.out.size)
     have hz:=hh.size
     have d0':=(hh.cell (p:=⟨bd,0,none⟩) hlt.1).trans h0
     have d3':=(hh.cell (p:=⟨bn,n*4+3,none⟩) hlt.2).trans hc3
     have HO1:=hid ho1
     have HB3:=hid hh
     have hz3:w3.heap[w.heap.size]?=some (.cells #[.int .i64 0,.int .i64 0] 32 (0,0)):=(hb1.block _ (Zc HZ.out)).trans HZ.out
     have HZ3:=hid hz3
     have HW3:=hid (And.intro hz (Zc hz3))
     go_must (have HD2:Hid (Zf (w3.alloc (.cells #[.bool true,.slice va (0+(x.cs.length - k)) vc,.slice none 0 0,.int .i64 (j:Int)] 119)) (fun b=>F b∧b<w.heap.size) bd bn cap rn rv s rs) :=
      HD.out.narrow.below (hh.alloc hh.size _))
     clear ho1 hb1 hh hz3)
  | (at_builtin
     refine wpList_append_lies _ rfl (.tmp 61) (.tmp 65) 120 rfl 0 119 j0 _ 4 64 Tryz.underlying120 hj jz0 jz1 jz2 rfl (by decide) (.slice (some ⟨bn,0,none⟩) s.length cap) s.length _ rfl (by have:=HD2.out.nodes;rw[hlenE] at this;simp only[Nat.zero_add] at this;exact this) ⟨w3.heap.size,0,none⟩ 1 1 [.bool true,.slice va (x.cs.length - k) vc,.slice none 0 0,.int .i64 (j:Int)] rfl rfl (World.news_of_block (heap_alloc_new w3 _)) (by simp[Value.oneCell']) (by decide) (by unfold maxLen;omega) (by omega) (Nat.zero_le _) (w3.heap.size+1) (by simp) ?_
     intro g cap' w4 ho (hg:World.grownBy _ w4 (some bn)) (hgn:some bn=some g∨_) _
     have z0:=HW3.out.1
     have z1:=HW3.out.2
     have hD2:=HD2.out
     simp only[Nat.zero_add] at hD2
     have hd1:=(hg.block bd (by simp only[World.size_alloc];omega) (by simpa using hD2.ne)).trans hD2.doc
     have hcD:w4.cell? ⟨bd,0,none⟩=some (.slice (some ⟨bn,0,none⟩) rn.length cap):=Za hd1 0
     have hfD:=Zd hd1 0
     have hq1:=(hg.block w.heap.size (by simp only[World.size_alloc];omega) (by simp;omega)).trans ((Below.heap_alloc _ _ _ z1).trans HZ3.out)
     have hcr:=HO1.out
     simp only[Nat.zero_add,List.nil_append] at hcr
     have hcb:∀ b,(Value.slice va (x.cs.length - k) vc).ownBlock=some b→w2.heap.size≤b:=fun b e=>(hcr.lt b e).1
     have hcs:(x.cs.drop k).length=x.cs.length - k:=by simp
     have hcv:(ZF x.cs).drop k=ZF (x.cs.drop k):=by simp[ZF]
     have hp5:=hD2.pushed (B:=w.heap.size+1) (x:=⟨true,x.cs.drop k,[],(j:Int)⟩) (r:=⟨true,.slice va (x.cs.length - k) vc,.slice none 0 0,(j:Int)⟩) (by simp only[World.size_alloc];omega) hg (by rw[hlenE];exact ho) (by rcases hgn with e|e;exact .inl (by cases e;rfl);exact .inr (by simpa using e))
      ⟨rfl,rfl,by rw[hcs,← hcv];exact Ji (hcr.alloc _),World.ownsRow_nil _ _ _ _,fun b e=>⟨.inr (by have:=hcb b e;omega),by have:=hcb b e;omega,by have:=hcb b e;omega,fun e2=>by have:=hcb b e;have:=(HD.out.ranges.lt b e2).2;omega⟩,fun b e=>(by cases e)⟩
     rw[hlenE] at hp5 hcD
     have hk0:Zb F w w4:=((Zb.of_below (F:=F) HB3.out).alloc _).trans (Zb.grown hg (fun k e=>by cases e;exact .inl (.inl HD.out.Fn)))
     have hq5:(w4.setCell ⟨bd,0,none⟩ (.slice (some ⟨g,0,none⟩) (s.length+1) cap')).heap[w.heap.size]?=some (.cells #[.int .i64 0,.int .i64 0] 32 (0,0)):=by
      rw[Below.heap_setCell _ _ _ _ (by simp;omega)];exact hq1
     have HP5:=hid hp5
     have HK0:=hid hk0
     have HQ5:=hid hq5
     have hx5:(s++[(⟨true,x.cs.drop k,[],(j:Int)⟩:Nd)])[n]?=some x:=by rw[List.getElem?_append_left hn];exact HX.out
     have hy5:(s++[(⟨true,x.cs.drop k,[],(j:Int)⟩:Nd)])[j]?=some y:=by rw[List.getElem?_append_left hjl];exact HY.out.1
     have C5:=hid (JW hp5 n j m x y hx5 HPJ.out hy5 HY.out.2.2.2 HY.out.2.1 HY.out.2.2.1)
     have e0:=hp5.nodesCell
     rw[List.length_append] at e0
     simp only[List.length_cons,List.length_nil,Nat.zero_add] at e0
     obtain⟨r7,hr7,ho7,-,-,hc7,-⟩:=hp5.look hy5
     obtain⟨ya,yc,hv7⟩:=Zo ho7.kids
     rw[hv7] at hc7
     have HR7:=hid ho7.kids
     rw[hv7] at HR7
     have hlt5:=hp5.lt
     obtain⟨ra,rc,hrve⟩:∃ a c,rv=.slice a rs.length c:=Zo hp5.ranges
     have HX5:=hid hx5
     have HY5:=hid hy5
     clear hr7 ho7 hv7 hx5 hy5
     clear hd1 hq1 hg ho hgn hp5 hk0 hq5 hD2 hcr hcb hcs hcv)
  | (go_at_call 121;refine C5.out.mono ?_;rintro e w6 ⟨rfl,n0,hw6⟩
     have hk6:Zb (fun _=>False) (w4.setCell ⟨bd,0,none⟩ (.slice (some ⟨g,0,none⟩) (s.length+1) cap')) w6:=by rw[hw6];exact⟨rfl,rfl,rfl,Nat.le_refl _,fun _ _ _=>rfl⟩
     have g0:=hk6.cell e0 (fun e=>e)
     have g7:=hk6.cell hc7 (fun e=>e)
     have HD6:=hid (HP5.out.keeps hk6 (fun _ _ e=>e))
     have hq6:=(hk6.block w.heap.size (Zc HQ5.out) (fun e=>e)).trans HQ5.out
     have HQ6:=hid hq6
     have HR6:=hid (hk6.row HR7.out (fun _ _ e=>e))
     have hl6:bd<w6.heap.size∧g<w6.heap.size:=HD6.out.lt
     have hz6:=Zc hq6
     have HK6:=hid ((HK0.out.setCell (p:=⟨bd,0,none⟩) (.inl HD.out.Fd) (.slice (some ⟨g,0,none⟩) (s.length+1) cap')).trans (hk6.mono (fun b _ e=>e.elim)))
     clear hw6 hk6 e0 hc7 hq6))
 go_cut [] from 15 to 150 (fun wc=>∃ rn2:List RN,Zf wc (fun b=>(F b∧b<w.heap.size)∨w.heap.size+1≤b) bd g cap' rn2 rv ((s++[(⟨true,x.cs.drop k,[],(j:Int)⟩:Nd)]).set j { y with ks:=y.ks.take (m+1)++s.length::y.ks.drop (m+1) }) rs∧Zb F w wc∧wc.heap[w.heap.size]?=some (.cells #[.int .i64 0,.int .i64 0] 32 (0,0)))
 case first =>
  go_region_with (
   go_at_call 117
   (have CW:=ZeP y.ks (.slice ya y.ks.length yc) (m+1) s.length w6.drew HR6.out.drew (by omega) HY.out.2.2.2
    rw[show (((m+1:Nat)):Int)=(m:Int)+1 from by omega] at CW
    refine CW.mono ?_)
   rintro e w7 ⟨v',rfl,hrow,hb⟩
   have hD7:=HD6.out.narrow.below (w':=w7) ⟨hb.os,hb.tape,hb.output,hb.size,hb.block⟩
   have h07:=hD7.nodesCell
   rw[List.length_append] at h07
   simp only[List.length_cons,List.length_nil,Nat.zero_add] at h07
   obtain⟨a',c',hv'⟩:=Zo hrow
   subst hv'
   obtain⟨r8,hr8,ho8,-,-,hc8,-⟩:=hD7.look HY5.out
   have hf8:=hD7.nodes.frozenAt (j*4+2)
   have hl7:=hD7.lt
   have HD7:=hid hD7
   have HB7:=hid hb
   have HROW:=hid hrow
   clear hD7 hb hrow hr8 ho8)
  all_goals
   go_wp2_with fail
   go_meet
   case rel =>
    have hrow:w7.ownsRow w6.heap.size 3 1 (.slice a' (y.ks.length+1) c') (y.ks.take (m+1)++s.length::y.ks.drop (m+1)).length (Zg (y.ks.take (m+1)++s.length::y.ks.drop (m+1))):=by
     have:=HROW.out
     rw[show (y.ks.take (m+1)++s.length::y.ks.drop (m+1)).length=y.ks.length+1 by simp;omega]
     simp only[World.size_drew] at this
     exact this
    obtain⟨rn2,h2⟩:=HD7.out.newKids (N:=w6.heap.size) (fun b e=>e.2) HY5.out hrow
    have hB7:Below w6.heap.size w6 w7:=⟨HB7.out.os,HB7.out.tape,HB7.out.output,HB7.out.size,HB7.out.block⟩
    have hg6:=HD6.out.Fn
    have hgn:¬ g=w.heap.size:=by rcases hg6 with e|e <;> omega
    refine⟨rn2,h2.wider (fun b e=>?_),(HK6.out.trans (Zb.of_below hB7)).setCell (p:=⟨g,j*4+2,none⟩) (by rcases hg6 with e|e;exact .inl e.1;exact .inr (by show w.heap.size≤g;omega)) _,?_⟩
    · rcases e with e|e
      · exact e.1
      · exact .inr (by omega)
    · rw[Below.heap_setCell _ _ _ _ (by simpa using fun e=>hgn (Eq.symm e))]
      exact(hB7.block _ (Zc HQ6.out)).trans HQ6.out
 case rest =>
  obtain⟨rn2,hD8,hK8,hq8⟩:=hcut
  have h08:=hD8.nodesCell
  rw[List.length_set,List.length_append] at h08
  simp only[List.length_cons,List.length_nil,Nat.zero_add] at h08
  have hr8:=hD8.rangesCell
  rw[hrve] at hr8
  have hx8:((s++[(⟨true,x.cs.drop k,[],(j:Int)⟩:Nd)]).set j { y with ks:=y.ks.take (m+1)++s.length::y.ks.drop (m+1) })[n]?=some x:=by rw[List.getElem?_set_ne (fun e=>hnj e.symm)];exact HX5.out
  have HX8:=hid hx8
  have H8:=hid (And.intro hD8 (And.intro hK8 hq8))
  have hl8:=hD8.lt
  clear hD8 hK8 hq8 hx8
  go_wp2
  go_loopw [14] (Jv w F (fun b=>(F b∧b<w.heap.size)∨w.heap.size+1≤b) bd g cap' rn2 rv ((s++[(⟨true,x.cs.drop k,[],(j:Int)⟩:Nd)]).set j { y with ks:=y.ks.take (m+1)++s.length::y.ks.drop (m+1) }) rs (Zp n k s.length (Ze j m 1)) (fun wr=>wr.heap[w.heap.size]?=some (.cells #[.int .i64 0,.int .i64 0] 32 (0,0)))) (fun t _=>Yj rs.length t)
  case atStart=>exact⟨0,Nat.zero_le _,rfl,by simpa using H8.out.1,H8.out.2.1,H8.out.2.2⟩
  case round =>
   obtain⟨q,hq,rfl,hR,hK,hF⟩:=hrel
   have hlr:=hR.lt
   obtain⟨ra',rc',hrve⟩:=Zo hR.ranges
   have hrl:((rs.take q).map (mvSp (Zp n k s.length (Ze j m 1)))++rs.drop q).length=rs.length:=by simp;omega
   rw[hrl] at hrve
   have hdv:=hR.rangesCell
   rw[hrve] at hdv
   by_cases hlt:q<rs.length
   · have hlI:(q:Int)<(rs.length:Int):=by omega
     obtain⟨z,hz⟩:∃ z,rs[q]?=some z:=⟨_,List.getElem?_eq_getElem hlt⟩
     obtain⟨gq,c',hrve2,hgl,hFg,hgd,hgn,e0,e1,e2,e3,hfr⟩:=hR.spanCells (YR (mvSp (Zp n k s.length (Ze j m 1))) rs q z hz)
     rw[hrl] at hrve2
     rw[hrve] at hrve2
     cases hrve2
     have hgw:¬ w.heap.size=gq:=by rcases hFg with h|h <;> omega
     obtain⟨za,zb,zc,zd⟩:=z
     obtain⟨hb0,hb1,hd0,hd1⟩:=HSM.out _ (List.mem_of_getElem? hz)
     simp only at hb0 hb1 hd0 hd1 e0 e1 e2 e3
     have CS:=hid (ZdQ za zb n k s.length j m wr.drew hb0 hb1 (by omega) (by omega))
     have CS2:=hid (fun (wc:World)=>ZdQ zc zd n k s.length j m wc.drew hd0 hd1 (by omega) (by omega))
     have hbdg:¬ bd=gq:=fun e=>hgd e.symm
     have HZ:=hid (YR (mvSp (Zp n k s.length (Ze j m 1))) rs q _ hz)
     have HZ0:=hid hz
     have HRV:=hid hrve
     have HR:=hid hR
     have HK:=hid hK
     have HF:=hid hF
     have HFG:=hid hFg
     have hqf:q<((rs.take q).map (mvSp (Zp n k s.length (Ze j m 1)))++rs.drop q).length:=by rw[hrl];exact hlt
     obtain⟨v0,v1,hv01⟩:∃ v0 v1,(Zp n k s.length (Ze j m 1)) za zb=(v0,v1):=⟨_,_,rfl⟩
     obtain⟨u0,u1,hu01⟩:∃ u0 u1,(Zp n k s.length (Ze j m 1)) zc zd=(u0,u1):=⟨_,_,rfl⟩
     rw[hv01] at CS
     rw[hu01] at CS2
     have hmz:mvSp (Zp n k s.length (Ze j m 1)) ⟨za,zb,zc,zd⟩=⟨v0,v1,u0,u1⟩:=by
      unfold mvSp
      simp only[hv01,hu01]
     have HMZ:=hid hmz
     clear hR hK hF hz hv01 hu01 hmz
     go_wp2
     go_cut [] from 102 to 121 (fun wc=>Zf wc (fun b=>(F b∧b<w.heap.size)∨w.heap.size+1≤b) bd g cap' rn2 rv ((s++[(⟨true,x.cs.drop k,[],(j:Int)⟩:Nd)]).set j { y with ks:=y.ks.take (m+1)++s.length::y.ks.drop (m+1) }) (((rs.take q).map (mvSp (Zp n k s.length (Ze j m 1)))++rs.drop q).set q ⟨v0,v1,zc,zd⟩)∧Zb F w wc∧wc.heap[w.heap.size]?=some (.cells #[.int .i64 0,.int .i64 0] 32 (0,0)))
     case first =>
      go_region_with ((
       go_at_call 126
       refine CS.out.mono ?_
       clear CS
       rintro e w1 ⟨rfl,hb1⟩
       have hB1:Below wr.heap.size wr w1:=⟨hb1.os,hb1.tape,hb1.output,hb1.size,hb1.block⟩
       have k1:=(hB1.cell (p:=⟨bd,1,none⟩) hlr.1).trans hdv
       obtain⟨n0,n1,n2,n3,nf⟩:=(HR.out.below hB1).spanAt HZ.out HRV.out
       have f0:=nf (q*4)
       have f1:=nf (q*4+1)
       clear nf n2 n3
       have HB1:=hid hB1
       clear hb1 hB1))
      all_goals
       go_wp2_with fail
       go_meet
       case rel =>
        have d1:=(HR.out.below HB1.out).setSp (by rw[hrl];exact HRV.out) HZ.out (r':=⟨v0,zb,zc,zd⟩) 0 (by omega) (.int .i64 v0) rfl
        have d2:=d1.setSp (by rw[List.length_set,hrl];exact HRV.out) (List.getElem?_set_self hqf) (r':=⟨v0,v1,zc,zd⟩) 1 (by omega) (.int .i64 v1) rfl
        rw[List.set_set] at d2
        refine⟨d2,((HK.out.trans (Zb.of_below HB1.out)).setCell (p:=⟨gq,q*4+0,none⟩) (HFG.out.imp And.left (fun h=>Nat.le_of_succ_le h)) _).setCell (p:=⟨gq,q*4+1,none⟩) (HFG.out.imp And.left (fun h=>Nat.le_of_succ_le h)) _,?_⟩
        exact(Below.heap_setCell _ _ _ _ (by show ¬ w.heap.size=gq;omega)).trans ((Below.heap_setCell _ _ _ _ (by show ¬ w.heap.size=gq;omega)).trans ((HB1.out.block _ (Zc HF.out)).trans HF.out))
     case rest =>
      obtain⟨hR,hK,hF⟩:=hcut
      have HZ:=hid (List.getElem?_set_self (a:=(⟨v0,v1,zc,zd⟩:Sp)) hqf)
      obtain⟨e0,e1,e2,e3,hfr⟩:=hR.spanAt HZ.out HRV.out
      have hdv:=hR.rangesCell
      rw[HRV.out] at hdv
      have hlr:=hR.lt
      have hgl:gq<wc.heap.size:=World.block_lt_of_cell? wc _ e0
      have CS:=hid (CS2.out wc)
      clear CS2
      have HR:=hid hR
      have HK:=hid hK
      have HF:=hid hF
      clear hR hK hF
      go_wp2
      go_region_with ((
       go_at_call 126
       refine CS.out.mono ?_
       clear CS
       rintro e w1 ⟨rfl,hb1⟩
       have hB1:Below wc.heap.size wc w1:=⟨hb1.os,hb1.tape,hb1.output,hb1.size,hb1.block⟩
       have k1:=(hB1.cell (p:=⟨bd,1,none⟩) hlr.1).trans hdv
       obtain⟨n0,n1,n2,n3,nf⟩:=(HR.out.below hB1).spanAt HZ.out HRV.out
       have f2:=nf (q*4+2)
       have f3:=nf (q*4+3)
       clear nf n0 n1
       have HB1:=hid hB1
       clear hb1 hB1))
      all_goals
       go_wp2_with fail
       go_roundw
       case rel =>
        have d1:=(HR.out.below HB1.out).setSp (by rw[List.length_set,hrl];exact HRV.out) HZ.out (r':=⟨v0,v1,u0,zd⟩) 2 (by omega) (.int .i64 u0) rfl
        rw[List.set_set] at d1
        have d2:=d1.setSp (by rw[List.length_set,hrl];exact HRV.out) (List.getElem?_set_self hqf) (r':=⟨v0,v1,u0,u1⟩) 3 (by omega) (.int .i64 u1) rfl
        rw[List.set_set] at d2
        have hs:=Jm (mvSp (Zp n k s.length (Ze j m 1))) rs q _ HZ0.out
        rw[HMZ.out] at hs
        rw[hs] at d2
        refine⟨q+1,by omega,by go_num,d2,((HK.out.trans (Zb.of_below HB1.out)).setCell (p:=⟨gq,q*4+2,none⟩) (HFG.out.imp And.left (fun h=>Nat.le_of_succ_le h)) _).setCell (p:=⟨gq,q*4+3,none⟩) (HFG.out.imp And.left (fun h=>Nat.le_of_succ_le h)) _,?_⟩
        exact(Below.heap_setCell _ _ _ _ (by show ¬ w.heap.size=gq;omega)).trans ((Below.heap_setCell _ _ _ _ (by show ¬ w.heap.size=gq;omega)).trans ((HB1.out.block _ (Zc HF.out)).trans HF.out))
       case measure=>simp[Yj,Go.RowKit.intOf];omega
   · obtain rfl:q=rs.length:=by omega
     have hlI:¬ (rs.length:Int)<(rs.length:Int):=by omega
     rw[List.take_of_length_le (Nat.le_refl _),List.drop_of_length_le (Nat.le_refl _),List.append_nil] at hR
     have h08:=hR.nodesCell
     rw[List.length_set,List.length_append] at h08
     simp only[List.length_cons,List.length_nil,Nat.zero_add] at h08
     have CR:=hid (J5 hR n k (x.cs.length - k) x HX8.out hlen (by omega) (.slice none 0 0) [] (by decide) (World.ownsRow_nil _ _ _ _) HSM2.out (by simpa using h6) (by decide))
     have HK8:=hid hK
     have HQ8:=hid hF
     clear hR hK hF
     go_wp2_with (
      go_at_call 125
      refine CR.out.mono ?_
      rintro e w9 ⟨rfl,hk9,hr9⟩
      have hz9:=(hk9.block _ (Zc HQ8.out) (fun e=>by rcases e with e|e;exact Nat.lt_irrefl _ e.2;omega)).trans HQ8.out
      have cz5:w9.cell? ⟨w.heap.size,0,none⟩=some (.int .i64 0):=Za hz9 0
      have cz6:w9.cell? ⟨w.heap.size,1,none⟩=some (.int .i64 0):=Za hz9 1
      have fz5:=Zd hz9 0
      have fz6:=Zd hz9 1
      have hs5:=Zc hz9
      have HK9:=hid hk9
      have HR9:=hid hr9
      clear hk9 hr9 hz9)
     refine bodyPost_ret (v:=.tuple #[.int .i64 s.length,Zi 0 0]) (by simp[results,Tryz.results79,go_sem,cz5,cz6,fz5,fz6,hs5]) rfl ?_
     have hk6:Zb F w w9:=HK8.out.trans (HK9.out.mono (fun b _ e=>by rcases e with e|e;exact .inl e.1;exact .inr (by omega)))
     have hk7:Zb (fun b=>b=w.heap.size) w9 ((w9.setCell ⟨w.heap.size,0,none⟩ (.int .i64 0)).setCell ⟨w.heap.size,1,none⟩ (.int .i64 0)):=((Zb.refl (fun b=>b=w.heap.size) w9).setCell (p:=⟨w.heap.size,0,none⟩) (.inl rfl) _).setCell (p:=⟨w.heap.size,1,none⟩) (.inl rfl) _
     obtain⟨bn6,cap6,rn6,rv6,hD6⟩:=HR9.out.keeps hk7 (fun b e e2=>by have:=Zc HQ8.out;rcases e with (e|e)|e <;> omega)
     refine⟨rfl,(hk6.setCell (p:=⟨w.heap.size,0,none⟩) (.inr (Nat.le_refl _)) _).setCell (p:=⟨w.heap.size,1,none⟩) (.inr (Nat.le_refl _)) _,bn6,cap6,rn6,rv6,?_⟩
     have e7:x.cs.take k++[]++x.cs.drop (k+(x.cs.length - k))=x.cs.take k:=by rw[List.drop_of_length_le (by omega)];simp
     rw[e7] at hD6
     refine hD6.wider (fun b e=>?_)
     rcases e with (e|e)|e
     · exact .inl e.1
     · exact .inr (by omega)
     · exact .inr (by have:=Zc HQ8.out;omega)
end
end
end Go.Proofs.YtabogkonklplcaaGreatDoor
