import Derived.Test.YtabogkonklplcaaGreatDoorJ26
import Derived.Test.YtabogkonklplcaaGreatDoorJ13
import Derived.Deep.RegionLaw
namespace Go.Proofs.YtabogkonklplcaaGreatDoor
set_option linter.unusedSimpArgs false
set_option linter.unusedVariables false
set_option maxRecDepth 20000
set_option maxHeartbeats 8000000
section
open Go.RowKit
section
variable {w:World} {F:Nat→Prop} {bd bn cap:Nat} {rn:List RN} {rv:Value} {s:List Nd} {rs:List Sp}
theorem Zea (hD:Zf w F bd bn cap rn rv s rs) {ht:Nat→Nat} {B:Nat} (hU:Up s ht B) (i j m:Nat) (x y:Nd) (hx:s[i]?=some x) (hj:x.p=j) (hy:s[j]?=some y) (hm:y.ks[m]?=some i) (hno:i∉y.ks.take m) (hbig:y.ks.length < lots) (hij:i≠j) (l:List Nat)
 (hl:∀ a:Nat,a<s.length→Lim (fun c=>ZT s c (a:Int) (i:Int)) (l.contains a)) (wf:WF s) (hsp:∀ x∈rs,SpOk s x) (h6:rs.length≤6) :
 Calls Tryz.prog 76 #[.pointer (some ⟨bd,0,none⟩),.int .i64 i] w fun e w'=>e=.returned (.agg #[.int .i64 0,.int .i64 0])∧Zb F w w' ∧
  RDoc w' (fun b=>F b∨w.heap.size≤b) bd ((s.set j { y with ks:=y.ks.take m++y.ks.drop (m+1) }).set i { x with p:=-1 }) (rs.map (mvSp (Zz l j m (Ze j m (-1))))):=by
 have hi:i<s.length:=(List.getElem?_eq_some_iff.1 hx).1
 have hj':j<s.length:=(List.getElem?_eq_some_iff.1 hy).1
 have hml:m<y.ks.length:=(List.getElem?_eq_some_iff.1 hm).1
 have hn:isB s i=true:=ZC (by omega)
 have h0:=hD.nodesCell
 have hl1:=hD.lt.1
 have hl2:=hD.lt.2
 obtain⟨r,hr,ho,-,-,-,hc3⟩:=hD.look hx
 rw[hj] at hc3
 have HD:=hid hD.narrow.faultAt
 have HX:=hid hx
 have HJ:=hid hj
 have HY:=hid hy
 have HM:=hid hm
 have HNO:=hid hno
 have HBIG:=hid hbig
 have HU:=hid hU
 have HL:=hid hl
 have HSP:=hid hsp
 have HWF:=hid wf
 clear hD hr ho hx hj hy hm hno hbig hU hl hsp wf
 go_enter Tryz.func76,Tryz.ntmps76
 go_wp2_with (go_at_call 47;refine(ZZ HD.out _).mono ?_;rintro e w' ⟨rfl,rfl⟩)
 go_loopw [7] (Jv w F (fun b=>F b∧b<w.heap.size) bd bn cap rn rv s rs (Zz l j m (Ze j m (-1))) (fun wr=>wr.heap[w.heap.size]?=some (.cells #[.int .i64 0,.int .i64 0] 32 (0,0)))) (fun t _=>Yj rs.length t)
 case atStart=>exact⟨0,Nat.zero_le _,rfl,by simpa using HD.out,(Zb.refl F w).alloc _,heap_alloc_new w _⟩
 case round =>
  obtain⟨q,hq,rfl,hR,hK,hF⟩:=hrel
  have hlr:=hR.lt
  obtain⟨ra,rc,hrve⟩:=Zo hR.ranges
  have hrl:((rs.take q).map (mvSp (Zz l j m (Ze j m (-1))))++rs.drop q).length=rs.length:=by simp;omega
  rw[hrl] at hrve
  have hdv:=hR.rangesCell
  rw[hrve] at hdv
  by_cases hlt:q<rs.length
  · have hlI:(q:Int)<(rs.length:Int):=by omega
    obtain⟨z,hz⟩:∃ z,rs[q]?=some z:=⟨_,List.getElem?_eq_getElem hlt⟩
    obtain⟨g,c,hrve2,hgl,hFg,hgd,hgn,e0,e1,e2,e3,hfr⟩:=hR.spanCells (YR (mvSp (Zz l j m (Ze j m (-1)))) rs q z hz)
    rw[hrl] at hrve2
    rw[hrve] at hrve2
    cases hrve2
    have hgw:g<w.heap.size:=hFg.2
    obtain⟨⟨za,zb,hza,hzb,hzl,hzs⟩,⟨zc,zd,hzc,hzd,hzl2,hzs2⟩⟩:=HSP.out z (List.mem_of_getElem? hz)
    rw[hza] at e0
    rw[hzb] at e1
    rw[hzc] at e2
    rw[hzd] at e3
    have hb1:zb≤100:=by have:=(PlOk.small HWF.out ⟨za,zb,rfl,rfl,hzl,hzs⟩).2;omega
    have hb2:zd≤100:=by have:=(PlOk.small HWF.out ⟨zc,zd,rfl,rfl,hzl2,hzs2⟩).2;omega
    have CS:=hid (Zef hR.drew HU.out i j m x y HX.out HJ.out HY.out HM.out HNO.out HBIG.out l za zb hzl hb1 (HL.out za hzl))
    have CS2:=hid (fun wc (hR:Zf wc (fun b=>F b∧b<w.heap.size) bd bn cap rn rv s (((rs.take q).map (mvSp (Zz l j m (Ze j m (-1))))++rs.drop q).set q ⟨((Zz l j m (Ze j m (-1))) za zb).1,((Zz l j m (Ze j m (-1))) za zb).2,zc,zd⟩))=>Zef hR.drew HU.out i j m x y HX.out HJ.out HY.out HM.out HNO.out HBIG.out l zc zd hzl2 hb2 (HL.out zc hzl2))
    have hbdg:¬ bd=g:=fun e=>hgd e.symm
    have HZ:=hid (YR (mvSp (Zz l j m (Ze j m (-1)))) rs q z hz)
    have HZ0:=hid hz
    have HRV:=hid hrve
    have HR:=hid hR
    have HK:=hid hK
    have HF:=hid hF
    have HFG:=hid hFg
    have hqf:q<((rs.take q).map (mvSp (Zz l j m (Ze j m (-1))))++rs.drop q).length:=by rw[hrl];exact hlt
    obtain⟨v0,v1,hv01⟩:∃ v0 v1,(Zz l j m (Ze j m (-1))) za zb=(v0,v1):=⟨_,_,rfl⟩
    obtain⟨u0,u1,hu01⟩:∃ u0 u1,(Zz l j m (Ze j m (-1))) zc zd=(u0,u1):=⟨_,_,rfl⟩
    rw[hv01] at CS
    rw[hu01,hv01] at CS2
    have HV:=hid hv01
    have HU01:=hid hu01
    have hzAB:z=⟨za,zb,zc,zd⟩:=by cases z;simp only at hza hzb hzc hzd;rw[hza,hzb,hzc,hzd]
    have hmz:mvSp (Zz l j m (Ze j m (-1))) z=⟨v0,v1,u0,u1⟩:=by
     rw[hzAB]
     unfold mvSp
     simp only[hv01,hu01]
    have HMZ:=hid hmz
    clear hR hK hF hz hv01 hu01 hmz hzAB
    go_wp2
    go_cut [] from 36 to 53 (fun wc=>Zf wc (fun b=>F b∧b<w.heap.size) bd bn cap rn rv s (((rs.take q).map (mvSp (Zz l j m (Ze j m (-1))))++rs.drop q).set q ⟨v0,v1,zc,zd⟩)∧Zb F w wc∧wc.heap[w.heap.size]?=some (.cells #[.int .i64 0,.int .i64 0] 32 (0,0)))
    case first =>
     go_region_with ((
      go_at_call 119
      refine CS.out.mono ?_
      clear CS
      rintro e w1 ⟨rfl,hb1⟩
      have hB1:Below wr.heap.size wr w1:=⟨hb1.os,hb1.tape,hb1.output,hb1.size,hb1.block⟩
      have k1:=(hB1.cell (p:=⟨bd,1,none⟩) hlr.1).trans hdv
      obtain⟨n0,n1,n2,n3,nf⟩:=(HR.out.below hB1).spanAt HZ.out HRV.out
      rw[hza] at n0
      rw[hzb] at n1
      have f0:=nf (q*4)
      have f1:=nf (q*4+1)
      clear nf n2 n3
      have HB1:=hid hB1
      clear hb1 hB1))
     all_goals
      go_wp2_with fail
      go_meet
      case rel =>
       have d1:=(HR.out.below HB1.out).setSp (by rw[hrl];exact HRV.out) HZ.out (r':={ z with a:=v0 }) 0 (by omega) (.int .i64 v0) rfl
       have d2:=d1.setSp (by rw[List.length_set,hrl];exact HRV.out) (List.getElem?_set_self hqf) (r':={ z with a:=v0,b:=v1 }) 1 (by omega) (.int .i64 v1) rfl
       rw[List.set_set] at d2
       have e3:({ z with a:=v0,b:=v1 }:Sp)=⟨v0,v1,zc,zd⟩:=by rw[← hzc,← hzd]
       rw[e3] at d2
       refine⟨d2,((HK.out.trans (Zb.of_below HB1.out)).setCell (p:=⟨g,q*4+0,none⟩) (.inl HFG.out.1) _).setCell (p:=⟨g,q*4+1,none⟩) (.inl HFG.out.1) _,?_⟩
       exact(Below.heap_setCell _ _ _ _ (by show ¬ w.heap.size=g;omega)).trans ((Below.heap_setCell _ _ _ _ (by show ¬ w.heap.size=g;omega)).trans ((HB1.out.block _ (Zc HF.out)).trans HF.out))
    case rest =>
     obtain⟨hR,hK,hF⟩:=hcut
     have HZ:=hid (List.getElem?_set_self (a:=(⟨v0,v1,zc,zd⟩:Sp)) hqf)
     obtain⟨e0,e1,e2,e3,hfr⟩:=hR.spanAt HZ.out HRV.out
     have hdv:=hR.rangesCell
     rw[HRV.out] at hdv
     have hlr:=hR.lt
     have hgl:g<wc.heap.size:=World.block_lt_of_cell? wc _ e0
     have CS:=hid (CS2.out wc hR)
     clear CS2
     have HR:=hid hR
     have HK:=hid hK
     have HF:=hid hF
     clear hR hK hF
     go_wp2
     go_region_with ((
      go_at_call 119
      refine CS.out.mono ?_
      clear CS
      rintro e w1 ⟨rfl,hb1⟩
      have hB1:Below wc.heap.size wc w1:=⟨hb1.os,hb1.tape,hb1.output,hb1.size,hb1.block⟩
      have k1:=(hB1.cell (p:=⟨bd,1,none⟩) hlr.1).trans hdv
      obtain⟨n0,n1,n2,n3,nf⟩:=(HR.out.below hB1).spanAt HZ.out HRV.out
      have f2:=nf (q*4+2)
      have f3:=nf (q*4+3)
      clear nf n0 n1
      have HB1:=hid hB1
      clear hb1 hB1))
     all_goals
      go_wp2_with fail
      go_roundw
      case rel =>
       have d1:=(HR.out.below HB1.out).setSp (by rw[List.length_set,hrl];exact HRV.out) HZ.out (r':=⟨v0,v1,u0,zd⟩) 2 (by omega) (.int .i64 u0) rfl
       rw[List.set_set] at d1
       have d2:=d1.setSp (by rw[List.length_set,hrl];exact HRV.out) (List.getElem?_set_self hqf) (r':=⟨v0,v1,u0,u1⟩) 3 (by omega) (.int .i64 u1) rfl
       rw[List.set_set] at d2
       have hs:=Jm (mvSp (Zz l j m (Ze j m (-1)))) rs q z HZ0.out
       rw[HMZ.out] at hs
       rw[hs] at d2
       refine⟨q+1,by omega,by go_num,d2,((HK.out.trans (Zb.of_below HB1.out)).setCell (p:=⟨g,q*4+2,none⟩) (.inl HFG.out.1) _).setCell (p:=⟨g,q*4+3,none⟩) (.inl HFG.out.1) _,?_⟩
       exact(Below.heap_setCell _ _ _ _ (by show ¬ w.heap.size=g;omega)).trans ((Below.heap_setCell _ _ _ _ (by show ¬ w.heap.size=g;omega)).trans ((HB1.out.block _ (Zc HF.out)).trans HF.out))
      case measure=>simp[Yj,intOf];omega
  · obtain rfl:q=rs.length:=by omega
    have hlI:¬ (rs.length:Int)<(rs.length:Int):=by omega
    rw[List.take_of_length_le (Nat.le_refl _),List.drop_of_length_le (Nat.le_refl _),List.append_nil] at hR
    have h0r:=hR.nodesCell
    obtain⟨r',hr',ho',-,-,hc2,-⟩:=hR.look HY.out
    obtain⟨a,c,hv⟩:=Zo ho'.kids
    rw[hv] at hc2
    have HRK:Hid (wr.ownsRow 0 3 1 (.slice a y.ks.length c) y.ks.length (Zg y.ks)):=by rw[← hv];exact ho'.kids
    have hzr:=hK.size
    have HR:=hid hR
    have HK:=hid hK
    have HF:=hid hF
    clear hR hK hF hr' ho' hv
    go_wp2
    go_cut [] from 8 to 98 (fun wc=>∃ rn2:List RN,Zf wc (fun b=>(F b∧b<w.heap.size)∨wr.heap.size≤b) bd bn cap rn2 rv (s.set j { y with ks:=y.ks.take m++y.ks.drop (m+1) }) (rs.map (mvSp (Zz l j m (Ze j m (-1)))))∧Zb F w wc∧wc.heap[w.heap.size]?=some (.cells #[.int .i64 0,.int .i64 0] 32 (0,0)))
    case first =>
     go_region_with (first
      | (go_at_call 121
         refine(JW HR.out.drew i j m x y HX.out HJ.out HY.out HBIG.out HM.out HNO.out).mono ?_
         rintro e w0 ⟨rfl,n0,rfl⟩)
      | (go_at_call 120
         refine(Zja y.ks (.slice a y.ks.length c) m _ ?_ hml HBIG.out).mono ?_
         · exact((Zb.refl (fun _=>False) wr).row HRK.out (fun _ _ e=>e))
         rintro e w1 ⟨v',rfl,hrow,hb⟩
         have hB1:Below wr.heap.size wr w1:=⟨hb.os,hb.tape,hb.output,hb.size,hb.block⟩
         have hD1:=HR.out.below hB1
         have h01:=hD1.nodesCell
         obtain⟨a',c',hv'⟩:=Zo hrow
         subst hv'
         obtain⟨r1,hr1,ho1,-,-,hc21,-⟩:=hD1.look HY.out
         have hf21:=hD1.nodes.frozenAt (j*4+2)
         have HD1:=hid hD1
         have HB1:=hid hB1
         have HROW:=hid hrow
         clear hD1 hb hB1 hrow hr1 ho1))
     all_goals
      go_wp2_with fail
      go_meet
      case rel =>
       have hrow:w1.ownsRow wr.heap.size 3 1 (.slice a' (y.ks.length - 1) c') (y.ks.take m++y.ks.drop (m+1)).length (Zg (y.ks.take m++y.ks.drop (m+1))):=by
        have:=HROW.out
        rw[show (y.ks.take m++y.ks.drop (m+1)).length=y.ks.length - 1 by simp;omega]
        simp only[World.heap_drewN,World.size_drew,World.size_alloc] at this
        exact this
       obtain⟨rn2,h2⟩:=HD1.out.newKids (N:=wr.heap.size) (fun b e=>by omega) HY.out hrow
       refine⟨rn2,h2,(HK.out.trans (Zb.of_below HB1.out)).setCell (p:=⟨bn,j*4+2,none⟩) (.inl HD1.out.Fn.1) _,?_⟩
       rw[Below.heap_setCell _ _ _ _ (by have:=HD1.out.Fn.2;show ¬ w.heap.size=bn;omega),HB1.out.block _ (Zc HF.out)]
       exact HF.out
    case rest =>
     obtain⟨rn2,hD2,hK2,hq2⟩:=hcut
     have hl21:=hD2.lt
     have hx2:(s.set j { y with ks:=y.ks.take m++y.ks.drop (m+1) })[i]?=some x:=by rw[List.getElem?_set,if_neg (fun e=>hij e.symm)];exact HX.out
     obtain⟨r2,hr2,ho2,-,-,-,hc32⟩:=hD2.look hx2
     have hf32:=hD2.nodes.frozenAt (i*4+3)
     have h02:=hD2.nodesCell
     rw[List.length_set] at h02
     have hqc0:wc.cell? ⟨w.heap.size,0,none⟩=some (.int .i64 0):=Za hq2 0
     have hqc1:wc.cell? ⟨w.heap.size,1,none⟩=some (.int .i64 0):=Za hq2 1
     have hqf0:=Zd hq2 0
     have hqf1:=Zd hq2 1
     have hne1:¬ bn=w.heap.size:=by omega
     have hne2:¬ bd=bn:=HD.out.ne
     have HD2:=hid hD2
     have HK2:=hid hK2
     have HX2:=hid hx2
     clear hD2 hK2 hq2 hr2 ho2 hx2
     go_wp2
     refine bodyPost_ret (v:=.agg #[.int .i64 0,.int .i64 0]) (by simp[results,Tryz.results76,go_sem, *]) rfl ?_
     obtain⟨rn3,h3⟩:=HD2.out.newPar (-1:Int) HX2.out
     refine⟨rfl,((HK2.out.setCell (p:=⟨bn,i*4+3,none⟩) (.inl HD.out.Fn.1) _).setCell (p:=⟨w.heap.size,0,none⟩) (.inr (Nat.le_refl _)) _).setCell (p:=⟨w.heap.size,1,none⟩) (.inr (Nat.le_refl _)) _,bn,cap,rn3,rv,?_⟩
     refine(h3.keeps (((Zb.refl (fun b=>b=w.heap.size) _).setCell (p:=⟨w.heap.size,0,none⟩) (.inl rfl) _).setCell (p:=⟨w.heap.size,1,none⟩) (.inl rfl) _) ?_).wider ?_
     · intro b hb e
       have hwl:=Zc HF.out
       rcases hb with hb|hb <;> omega
     · intro b hb
       rcases hb with hb|hb
       · exact .inl hb.1
       · exact .inr (by omega)
end
end
end Go.Proofs.YtabogkonklplcaaGreatDoor
