import Derived.Test.YtabogkonklplcaaGreatDoorJ26
import Derived.Test.YtabogkonklplcaaGreatDoorJ24
namespace Go.Proofs.YtabogkonklplcaaGreatDoor
set_option linter.unusedSimpArgs false
set_option linter.unusedVariables false
set_option maxRecDepth 20000
set_option maxHeartbeats 8000000
section
open Go.RowKit
section
variable {w:World} {F:Nat→Prop} {bd bn cap:Nat} {rn:List RN} {rv:Value} {s:List Nd} {rs:List Sp}
theorem Zhq (hD:Zf w F bd bn cap rn rv s rs) {ht:Nat→Nat} {B:Nat} (hU:Up s ht B) (i j k:Nat) (x y:Nd) (h:YI s i j x y) (hw:Lim (fun c=>ZT s c (i:Int) (j:Int)) false) (hk:k≤x.ks.length) (hbig:x.ks.length < lots) (hij:i≠j) (hsm:Small rs) (h6:rs.length≤6) :
 Calls Tryz.prog 75 #[.pointer (some ⟨bd,0,none⟩),.int .i64 i,.int .i64 j,.int .i64 k] w fun e w'=>e=.returned (.agg #[.int .i64 0,.int .i64 0])∧Zb F w w' ∧
  RDoc w' (fun b=>F b∨w.heap.size≤b) bd ((s.set i { x with ks:=x.ks.take k++j::x.ks.drop k }).set j { y with p:=i }) (rs.map (mvSp (Ze i k 1))):=by
 obtain⟨hx,hy,ht0,hj,hyp⟩:=h
 have hi:i<s.length:=(List.getElem?_eq_some_iff.1 hx).1
 have hj':j<s.length:=(List.getElem?_eq_some_iff.1 hy).1
 have hp:isB s i=true:=ZC (by omega)
 have hn:isB s j=true:=ZC (by omega)
 have h0:=hD.nodesCell
 have hl:=hD.lt.1
 have hl2:=hD.lt.2
 have HX:=hid (hx)
 have HY:=hid (hy)
 obtain⟨r,hr,ho,hc0,-,hc2,-⟩:=hD.look hx
 obtain⟨r',hr',ho',-,-,-,hc3⟩:=hD.look hy
 obtain⟨a,c,hv⟩:=Zo ho.kids
 rw[hv] at hc2
 have HR:Hid (w.ownsRow 0 3 1 (.slice a x.ks.length c) x.ks.length (Zg x.ks)):=by rw[← hv];exact ho.kids
 rw[ht0] at hc0
 have HD:=hid (hD.narrow.faultAt)
 have HU:=hid (hU)
 have HW:=hid (hw)
 have HBIG:=hid (hbig)
 have hj0:((j:Int) == 0)=false:=by simp;omega
 have hkk:decide ((x.ks.length:Int)<(k:Int))=false:=decide_eq_false (by omega)
 have hyd:decide (0≤y.p)=false:=decide_eq_false (by omega)
 clear hD hr ho hx hr' ho' hy ht0 hU hw hbig
 go_enter Tryz.func75,Tryz.ntmps75
 go_wp2_with (first
  | (go_at_call 47;refine(ZZ HD.out _).mono ?_;rintro e w' ⟨rfl,rfl⟩)
  | (go_at_call 116;refine(XE HD.out HU.out _ _ (by omega) HW.out).mono ?_;rintro e w' ⟨rfl,rfl⟩))
 go_cut [] from 13 to 153 (fun wc=>∃ rn2:List RN,Zf wc (fun b=>(F b∧b<w.heap.size)∨w.heap.size+1≤b) bd bn cap rn2 rv (s.set i { x with ks:=x.ks.take k++j::x.ks.drop k }) rs∧Zb F w wc∧wc.heap[w.heap.size]?=some (.cells #[.int .i64 0,.int .i64 0] 32 (0,0)))
 case first =>
  go_region_with (
   go_at_call 117
   refine(ZeP x.ks (.slice a x.ks.length c) k j _ ?_ hk HBIG.out).mono ?_
   · exact((((Zb.refl (fun _=>False) w).alloc _).drew).row HR.out (fun _ _ e=>e))
   rintro e w1 ⟨v',rfl,hrow,hb⟩
   have hD1:Zf w1 (fun b=>F b∧b<w.heap.size) bd bn cap rn rv s rs:=HD.out.below ⟨hb.os,hb.tape,hb.output,hb.size,hb.block⟩
   have h01:=hD1.nodesCell
   obtain⟨a',c',hv'⟩:=Zo hrow
   subst hv'
   obtain⟨r1,hr1,ho1,-,-,hc21,-⟩:=hD1.look HX.out
   have hf21:=hD1.nodes.frozenAt (i*4+2)
   have HD1:=hid (hD1)
   have HB1:=hid (hb)
   have HROW:=hid (hrow)
   have HR1:=hid (hr1)
   have HO1:=hid (ho1)
   clear hD1 hb hrow hr1 ho1)
  all_goals
   go_wp2_with fail
   go_meet
   case rel =>
    have hrow:w1.ownsRow (w.heap.size+1) 3 1 (.slice a' (x.ks.length+1) c') (x.ks.take k++j::x.ks.drop k).length (Zg (x.ks.take k++j::x.ks.drop k)):=by
     have:=HROW.out
     rw[show (x.ks.take k++j::x.ks.drop k).length=x.ks.length+1 by simp;omega]
     simp only[World.size_drew,World.size_alloc] at this
     exact this
    obtain⟨rn2,h2⟩:=HD1.out.newKids (N:=w.heap.size+1) (fun b e=>by omega) HX.out hrow
    have hk1:Zb F w w1:=((Zb.refl F w).alloc _).trans (Zb.of_below ⟨HB1.out.os,HB1.out.tape,HB1.out.output,HB1.out.size,HB1.out.block⟩)
    have hq:w1.heap[w.heap.size]?=some (.cells #[.int .i64 0,.int .i64 0] 32 (0,0)):=(HB1.out.block w.heap.size (by simp)).trans (heap_alloc_new w _)
    refine⟨rn2,h2,hk1.setCell (p:=⟨bn,i*4+2,none⟩) (.inl HD1.out.Fn.1) _,?_⟩
    rw[Below.heap_setCell _ _ _ _ (by simp;omega)]
    exact hq
 case rest =>
  obtain⟨rn2,hD2,hK2,hq2⟩:=hcut
  have hl21:=hD2.lt
  have hy2:(s.set i { x with ks:=x.ks.take k++j::x.ks.drop k })[j]?=some y:=by rw[List.getElem?_set,if_neg hij];exact HY.out
  obtain⟨r2,hr2,ho2,-,-,-,hc32⟩:=hD2.look hy2
  have hf32:=hD2.nodes.frozenAt (j*4+3)
  have h02:=hD2.nodesCell
  rw[List.length_set] at h02
  obtain⟨ra,rc,hrv⟩:∃ a c,rv=.slice a rs.length c:=Zo hD2.ranges
  have h12:=hD2.rangesCell
  rw[hrv] at h12
  have hqc0:wc.cell? ⟨w.heap.size,0,none⟩=some (.int .i64 0):=Za hq2 0
  have hqc1:wc.cell? ⟨w.heap.size,1,none⟩=some (.int .i64 0):=Za hq2 1
  have hqf0:=Zd hq2 0
  have hqf1:=Zd hq2 1
  have hne1:¬ bn=w.heap.size:=by omega
  have hne2:¬ bd=bn:=HD.out.ne
  obtain⟨rn3,h3⟩:=hD2.newPar (i:Int) hy2
  have hk3:=hK2.setCell (p:=⟨bn,j*4+3,none⟩) (.inl HD.out.Fn.1) (.int .i64 (i:Int))
  have hq3:=(Below.heap_setCell wc ⟨bn,j*4+3,none⟩ (.int .i64 (i:Int)) w.heap.size (by show ¬ w.heap.size=bn;omega)).trans hq2
  have H3:=hid (And.intro h3 (And.intro hk3 hq3))
  have HSM:=hid hsm
  clear hD2 hK2 hq2 hr2 ho2 hy2 hrv h3 hk3 hq3 hsm
  go_wp2
  go_loopw [12] (Jv w F (fun b=>(F b∧b<w.heap.size)∨w.heap.size+1≤b) bd bn cap rn3 rv ((s.set i { x with ks:=x.ks.take k++j::x.ks.drop k }).set j { y with p:=i }) rs (Ze i k 1) (fun wr=>wr.heap[w.heap.size]?=some (.cells #[.int .i64 0,.int .i64 0] 32 (0,0)))) (fun t _=>Yj rs.length t)
  case atStart=>exact⟨0,Nat.zero_le _,rfl,by simpa using H3.out.1,H3.out.2.1,H3.out.2.2⟩
  case round =>
   obtain⟨q,hq,rfl,hR,hK,hF⟩:=hrel
   have hlr:=hR.lt
   obtain⟨ra',rc',hrve⟩:=Zo hR.ranges
   have hrl:((rs.take q).map (mvSp (Ze i k 1))++rs.drop q).length=rs.length:=by simp;omega
   rw[hrl] at hrve
   have hdv:=hR.rangesCell
   rw[hrve] at hdv
   by_cases hlt:q<rs.length
   · have hlI:(q:Int)<(rs.length:Int):=by omega
     obtain⟨z,hz⟩:∃ z,rs[q]?=some z:=⟨_,List.getElem?_eq_getElem hlt⟩
     obtain⟨g,c',hrve2,hgl,hFg,hgd,hgn,e0,e1,e2,e3,hfr⟩:=hR.spanCells (YR (mvSp (Ze i k 1)) rs q z hz)
     rw[hrl] at hrve2
     rw[hrve] at hrve2
     cases hrve2
     have hgw:¬ w.heap.size=g:=by rcases hFg with h|h <;> omega
     obtain⟨za,zb,zc,zd⟩:=z
     obtain⟨hb0,hb1,hd0,hd1⟩:=HSM.out _ (List.mem_of_getElem? hz)
     simp only at hb0 hb1 hd0 hd1 e0 e1 e2 e3
     have CS:=hid (Zdf za zb i k wr.drew hb0 hb1)
     have CS2:=hid (fun (wc:World)=>Zdf zc zd i k wc.drew hd0 hd1)
     have hbdg:¬ bd=g:=fun e=>hgd e.symm
     have HZ:=hid (YR (mvSp (Ze i k 1)) rs q _ hz)
     have HZ0:=hid hz
     have HRV:=hid hrve
     have HR:=hid hR
     have HK:=hid hK
     have HF:=hid hF
     have HFG:=hid hFg
     have hqf:q<((rs.take q).map (mvSp (Ze i k 1))++rs.drop q).length:=by rw[hrl];exact hlt
     obtain⟨v0,v1,hv01⟩:∃ v0 v1,(Ze i k 1) za zb=(v0,v1):=⟨_,_,rfl⟩
     obtain⟨u0,u1,hu01⟩:∃ u0 u1,(Ze i k 1) zc zd=(u0,u1):=⟨_,_,rfl⟩
     rw[hv01] at CS
     rw[hu01] at CS2
     have hmz:mvSp (Ze i k 1) ⟨za,zb,zc,zd⟩=⟨v0,v1,u0,u1⟩:=by
      unfold mvSp
      simp only[hv01,hu01]
     have HMZ:=hid hmz
     clear hR hK hF hz hv01 hu01 hmz
     go_wp2
     go_cut [] from 117 to 133 (fun wc=>Zf wc (fun b=>(F b∧b<w.heap.size)∨w.heap.size+1≤b) bd bn cap rn3 rv ((s.set i { x with ks:=x.ks.take k++j::x.ks.drop k }).set j { y with p:=i }) (((rs.take q).map (mvSp (Ze i k 1))++rs.drop q).set q ⟨v0,v1,zc,zd⟩)∧Zb F w wc∧wc.heap[w.heap.size]?=some (.cells #[.int .i64 0,.int .i64 0] 32 (0,0)))
     case first =>
      go_region_with ((
       go_at_call 118
       refine CS.out.mono ?_
       clear CS
       rintro e w1 ⟨rfl,hb1⟩
       have hB1:Below wr.heap.size wr w1:=⟨hb1.os,hb1.tape,hb1.output,hb1.size,hb1.block⟩
       have k1:=(hB1.cell (p:=⟨bd,1,none⟩) hlr.1).trans hdv
       obtain⟨n0,n1,n2,n3,nf⟩:=(HR.out.below hB1).spanAt HZ.out HRV.out
       have f0:=nf (q*4)
       have f1:=nf (q*4+1)
       clear nf n2 n3
       have HB1:=hid hB1
       clear hb1 hB1))
      all_goals
       go_wp2_with fail
       go_meet
       case rel =>
        have d1:=(HR.out.below HB1.out).setSp (by rw[hrl];exact HRV.out) HZ.out (r':=⟨v0,zb,zc,zd⟩) 0 (by omega) (.int .i64 v0) rfl
        have d2:=d1.setSp (by rw[List.length_set,hrl];exact HRV.out) (List.getElem?_set_self hqf) (r':=⟨v0,v1,zc,zd⟩) 1 (by omega) (.int .i64 v1) rfl
        rw[List.set_set] at d2
        refine⟨d2,((HK.out.trans (Zb.of_below HB1.out)).setCell (p:=⟨g,q*4+0,none⟩) (HFG.out.imp And.left (fun h=>Nat.le_of_succ_le h)) _).setCell (p:=⟨g,q*4+1,none⟩) (HFG.out.imp And.left (fun h=>Nat.le_of_succ_le h)) _,?_⟩
        exact(Below.heap_setCell _ _ _ _ (by show ¬ w.heap.size=g;omega)).trans ((Below.heap_setCell _ _ _ _ (by show ¬ w.heap.size=g;omega)).trans ((HB1.out.block _ (Zc HF.out)).trans HF.out))
     case rest =>
      obtain⟨hR,hK,hF⟩:=hcut
      have HZ:=hid (List.getElem?_set_self (a:=(⟨v0,v1,zc,zd⟩:Sp)) hqf)
      obtain⟨e0,e1,e2,e3,hfr⟩:=hR.spanAt HZ.out HRV.out
      have hdv:=hR.rangesCell
      rw[HRV.out] at hdv
      have hlr:=hR.lt
      have hgl:g<wc.heap.size:=World.block_lt_of_cell? wc _ e0
      have CS:=hid (CS2.out wc)
      clear CS2
      have HR:=hid hR
      have HK:=hid hK
      have HF:=hid hF
      clear hR hK hF
      go_wp2
      go_region_with ((
       go_at_call 118
       refine CS.out.mono ?_
       clear CS
       rintro e w1 ⟨rfl,hb1⟩
       have hB1:Below wc.heap.size wc w1:=⟨hb1.os,hb1.tape,hb1.output,hb1.size,hb1.block⟩
       have k1:=(hB1.cell (p:=⟨bd,1,none⟩) hlr.1).trans hdv
       obtain⟨n0,n1,n2,n3,nf⟩:=(HR.out.below hB1).spanAt HZ.out HRV.out
       have f2:=nf (q*4+2)
       have f3:=nf (q*4+3)
       clear nf n0 n1
       have HB1:=hid hB1
       clear hb1 hB1))
      all_goals
       go_wp2_with fail
       go_roundw
       case rel =>
        have d1:=(HR.out.below HB1.out).setSp (by rw[List.length_set,hrl];exact HRV.out) HZ.out (r':=⟨v0,v1,u0,zd⟩) 2 (by omega) (.int .i64 u0) rfl
        rw[List.set_set] at d1
        have d2:=d1.setSp (by rw[List.length_set,hrl];exact HRV.out) (List.getElem?_set_self hqf) (r':=⟨v0,v1,u0,u1⟩) 3 (by omega) (.int .i64 u1) rfl
        rw[List.set_set] at d2
        have hs:=Jm (mvSp (Ze i k 1)) rs q _ HZ0.out
        rw[HMZ.out] at hs
        rw[hs] at d2
        refine⟨q+1,by omega,by go_num,d2,((HK.out.trans (Zb.of_below HB1.out)).setCell (p:=⟨g,q*4+2,none⟩) (HFG.out.imp And.left (fun h=>Nat.le_of_succ_le h)) _).setCell (p:=⟨g,q*4+3,none⟩) (HFG.out.imp And.left (fun h=>Nat.le_of_succ_le h)) _,?_⟩
        exact(Below.heap_setCell _ _ _ _ (by show ¬ w.heap.size=g;omega)).trans ((Below.heap_setCell _ _ _ _ (by show ¬ w.heap.size=g;omega)).trans ((HB1.out.block _ (Zc HF.out)).trans HF.out))
       case measure=>simp[Yj,Go.RowKit.intOf];omega
   · obtain rfl:q=rs.length:=by omega
     have hlI:¬ (rs.length:Int)<(rs.length:Int):=by omega
     rw[List.take_of_length_le (Nat.le_refl _),List.drop_of_length_le (Nat.le_refl _),List.append_nil] at hR
     have hqc0:wr.cell? ⟨w.heap.size,0,none⟩=some (.int .i64 0):=Za hF 0
     have hqc1:wr.cell? ⟨w.heap.size,1,none⟩=some (.int .i64 0):=Za hF 1
     have hqf0:=Zd hF 0
     have hqf1:=Zd hF 1
     have hwl:=Zc hF
     have HR:=hid hR
     have HK:=hid hK
     clear hR hK hF
     go_wp2
     refine bodyPost_ret (v:=.agg #[.int .i64 0,.int .i64 0]) (by simp[results,Tryz.results75,go_sem, *]) rfl ?_
     refine⟨rfl,(HK.out.setCell (p:=⟨w.heap.size,0,none⟩) (.inr (Nat.le_refl _)) _).setCell (p:=⟨w.heap.size,1,none⟩) (.inr (Nat.le_refl _)) _,bn,cap,rn3,rv,?_⟩
     refine(HR.out.keeps (((Zb.refl (fun b=>b=w.heap.size) _).setCell (p:=⟨w.heap.size,0,none⟩) (.inl rfl) _).setCell (p:=⟨w.heap.size,1,none⟩) (.inl rfl) _) ?_).wider ?_
     · intro b hb e
       rcases hb with hb|hb <;> omega
     · intro b hb
       rcases hb with hb|hb
       · exact .inl hb.1
       · exact .inr (by omega)
end
end
end Go.Proofs.YtabogkonklplcaaGreatDoor
