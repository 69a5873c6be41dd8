import Derived.Test.YtabogkonklplcaaGreatDoorJ26
import Derived.Test.YtabogkonklplcaaGreatDoorJ13
namespace Go.Proofs.YtabogkonklplcaaGreatDoor
set_option linter.unusedSimpArgs false
set_option linter.unusedVariables false
set_option maxRecDepth 20000
set_option maxHeartbeats 8000000
section
open Go.RowKit
section
variable {w:World} {F:Nat→Prop} {bd bn cap:Nat} {rn:List RN} {rv:Value} {s:List Nd} {rs:List Sp}
theorem Zhp (hD:Zf w F bd bn cap rn rv s rs) (n k c:Nat) (x:Nd) (hx:s[n]?=some x) (hlen:x.cs.length≤30) (r:RN) (hr:rn[n]?=some r) (g cc:Nat) (hcv:r.cv=.slice (some ⟨g,0,none⟩) x.cs.length cc) (hk:k+c≤x.cs.length) (bv:Value) (lb:List ByteArray) (hbig:lb.length < lots) (hby:w.ownsRow 0 9 1 bv lb.length (ZF lb)) (hsm:Small rs) (h6:rs.length≤6) (hl100:lb.length≤100) :
 Calls Tryz.prog 125 #[.pointer (some ⟨bd,0,none⟩),.int .i64 n,.int .i64 k,.int .i64 c,bv] w fun e w'=>e=.returned (.tuple #[])∧Zb F w w' ∧
  RDoc w' (fun b=>F b∨w.heap.size≤b) bd (s.set n { x with cs:=x.cs.take k++lb++x.cs.drop (k+c) }) (rs.map (mvSp (Zl n k c lb.length))):=by
 have hkc100:(k:Int)≤100∧(c:Int)≤100:=by omega
 obtain⟨SX,hSX⟩:∃ SX,s.set n { x with cs:=x.cs.take k++lb++x.cs.drop (k+c) }=SX:=⟨_,rfl⟩
 rw[hSX]
 have HSX:=hid hSX
 clear hSX
 obtain⟨ba,bcc,hbve⟩:=Zo hby
 subst hbve
 obtain⟨i0,hi,hz0,hz1,hz2⟩:=info_parts Tryz.info9
 have hn:n<s.length:=(List.getElem?_eq_some_iff.1 hx).1
 unfold lots at hbig
 have h0:=hD.nodesCell
 have hlt:=hD.lt
 obtain⟨r',hr',ho,-,hc1,-,-⟩:=hD.look hx
 obtain rfl:r'=r:=Option.some.inj (hr'.symm.trans hr)
 have hrow:=ho.chars
 rw[hcv] at hc1 hrow
 have hcap:=ZaS hrow
 have hkc:k≤cc:=by omega
 have hkI:(k:Int)+c≤30:=by omega
 obtain⟨ad,hsl,hsrc⟩:=Za0 Tryz.underlying107 Tryz.elem107 Tryz.sizeOf9 hrow (k+c) hk
 have ec:(((k+c:Nat)):Int)=(k:Int)+(c:Int):=by omega
 rw[ec] at hsl
 have src1:YD w 1 (.slice (some ⟨g,0,none⟩) k cc) k (ZF (x.cs.take k)):=.inr ⟨_,_,rfl,by simp;omega,ZbV hrow 0 (ys:=ZF (x.cs.take k)) (by intro j u hu;simp only[ZF,List.map_take] at hu ⊢;rw[List.getElem?_take] at hu;split at hu <;> simp_all),Jp _⟩
 have S1:=hid src1
 have HBY:=hid hby
 have HSRC:=hid hsrc
 have HROW:=hid hrow
 have HD:=hid hD
 have HX:=hid hx
 obtain⟨ra,rc,hrve⟩:∃ a c,rv=.slice a rs.length c:=Zo hD.ranges
 have hrv:=hD.rangesCell
 rw[hrve] at hrv
 clear hD hr ho hrow hsrc hby src1 ec hx hcv
 go_enter Tryz.func125,Tryz.ntmps125
 go_wp2_with (first
  | (at_builtin;refine X1 _ rfl (.tmp 21) (.tmp 24) 107 rfl w.heap.size 9 i0 (.string ByteArray.empty) 1 16 Tryz.underlying107 hi hz0 hz1 hz2 rfl (by decide) (.slice none 0 0) 0 [] rfl (World.ownsRow_nil _ _ _ _) _ k _ rfl S1.out (by unfold maxLen;omega) (by omega) (Nat.le_refl _) ?_
     intro v1 w1 ho1 hb1
     have HO1:=hid ho1
     have HB1:=hid hb1
     clear ho1 hb1)
  | (at_builtin;refine X1 _ rfl (.tmp 26) (.tmp 27) 107 rfl w.heap.size 9 i0 (.string ByteArray.empty) 1 16 Tryz.underlying107 hi hz0 hz1 hz2 rfl (by decide) v1 _ _ rfl HO1.out (.slice ba lb.length bcc) lb.length _ rfl (YD.of_row ((Zb.of_below (F:=fun _=>False) HB1.out).row HBY.out (fun _ _ e=>e)) (Jp _)) (by unfold maxLen;omega) (by omega) HB1.out.size ?_
     intro v2 w2 ho2 hb2
     have hb2':=HB1.out.trans hb2
     have d0:=(hb2'.cell (p:=⟨bd,0,none⟩) hlt.1).trans h0
     have dr:=(hb2'.cell (p:=⟨bd,1,none⟩) hlt.1).trans hrv
     have dc1:=(hb2'.cell (p:=⟨bn,n*4+1,none⟩) hlt.2).trans hc1
     have HO2:=hid ho2
     have HB2:=hid hb2'
     clear ho2 hb2 hb2'))
 have hrw2:=(Zb.of_below (F:=fun _=>False) HB2.out).row HROW.out (fun _ _ e=>e)
 have S3:Hid (YD w2.drew 1 (.slice (some ad) (x.cs.length - (k+c)) (cc - (k+c))) (x.cs.length - (k+c)) ((ZF x.cs).drop (k+c))) :=
  .inr ⟨_,_,rfl,by simp,HSRC.out w2.drew hrw2.drew,fun u hu=>Jp x.cs u (List.mem_of_mem_drop hu)⟩
 have HO2d:Hid (w2.drew.ownsRow w.heap.size 9 1 v2 (k+lb.length) (ZF (x.cs.take k)++ZF lb)):=by
  have:=HO2.out.drew
  rw[Nat.zero_add,List.nil_append] at this
  exact this
 have HF:=hid (fun w3 (hB:Below w.heap.size w w3)=>(HD.out.below hB).nodes.frozenAt (n*4+1))
 have HB2d:=hid (HB2.out.drew)
 have q1:IntKind.i64.wrap ((k:Int)+(c:Int))=(k:Int)+(c:Int):=by
  rw[IntKind.wrap_i64];omega
 have hne2:¬ bd=bn:=HD.out.ne
 have hne3:¬ bn=bd:=fun e=>HD.out.ne e.symm
 have q6:(k:Int)+(c:Int)≤(x.cs.length:Int):=by omega
 have q7:(0:Int)≤(k:Int)+(c:Int):=by omega
 clear hrw2 HROW HSRC HO2 HO1 HB1 S1 HBY
 go_region_held3 (fun w'=>w'.cell? ⟨bd,0,none⟩=some (.slice (some ⟨bn,0,none⟩) s.length cap)) (first|exact f0|go_keep) ((
  refine Zeo _ rfl (.tmp 34) (.tmp 39) 107 rfl w.heap.size 9 i0 (.string ByteArray.empty) 1 16 Tryz.underlying107 hi hz0 hz1 hz2 rfl (by decide) v2 (k+lb.length) _ (by simp[Act.eval,Act.put]) HO2d.out (.slice (some ad) (x.cs.length - (k+c)) (cc - (k+c))) (x.cs.length - (k+c)) _ (by simp[Act.eval,Act.put]) S3.out (by unfold maxLen;omega) (by omega) HB2d.out.size ?_
  intro v3 w3 ho3 hb3
  obtain⟨a3,c3,hv3⟩:=Zo ho3
  subst hv3
  have hB3:=HB2d.out.trans hb3
  have f0:=(hB3.cell (p:=⟨bd,0,none⟩) hlt.1).trans h0
  have fr:=(hB3.cell (p:=⟨bd,1,none⟩) hlt.1).trans hrv
  have f1:=(hB3.cell (p:=⟨bn,n*4+1,none⟩) hlt.2).trans hc1
  have ff:=HF.out w3 hB3
  have HO3:=hid ho3
  have HB3:=hid hB3
  clear ho3 hb3 hB3))
 have gr:(w3.setCell ⟨bn,n*4+1,none⟩ (.slice a3 (k+lb.length+(x.cs.length - (k+c))) c3)).cell? ⟨bd,1,none⟩=some (.slice ra rs.length rc):=by
  unfold World.cell?
  rw[Below.heap_setCell _ _ _ _ (by simpa using hne2)]
  exact fr
 have hrow3:w3.ownsRow w.heap.size 9 1 (.slice a3 (k+lb.length+(x.cs.length - (k+c))) c3) (x.cs.take k++lb++x.cs.drop (k+c)).length (ZF (x.cs.take k++lb++x.cs.drop (k+c))):=by
  have e1:(x.cs.take k++lb++x.cs.drop (k+c)).length=k+lb.length+(x.cs.length - (k+c)):=by simp;omega
  have e2:ZF (x.cs.take k++lb++x.cs.drop (k+c))=ZF (x.cs.take k)++ZF lb++(ZF x.cs).drop (k+c):=by simp[ZF]
  rw[e1,e2]
  exact HO3.out
 obtain⟨rn2,h3⟩:=(HD.out.narrow.below HB3.out).newChars (N:=w.heap.size) (fun b e=>e.2) HX.out hrow3
 rw[HSX.out] at h3
 have hk3:Zb F w (w3.setCell ⟨bn,n*4+1,none⟩ (.slice a3 (k+lb.length+(x.cs.length - (k+c))) c3)):=(Zb.of_below HB3.out).setCell (p:=⟨bn,n*4+1,none⟩) (.inl HD.out.Fn) _
 have HSM:=hid hsm
 have H3:=hid h3
 have HK3:=hid hk3
 clear hsm h3 hk3
 go_wp2
 go_loopw [12] (Jv w F (fun b=>(F b∧b<w.heap.size)∨w.heap.size≤b) bd bn cap rn2 rv SX rs (Zl n k c lb.length) (fun _=>True)) (fun t _=>Yj rs.length t)
 case atStart=>exact⟨0,Nat.zero_le _,rfl,by simpa using H3.out,HK3.out,trivial⟩
 case round =>
  obtain⟨q,hq,rfl,hR,hK,hF⟩:=hrel
  have hlr:=hR.lt
  obtain⟨ra',rc',hrve⟩:=Zo hR.ranges
  have hrl:((rs.take q).map (mvSp (Zl n k c lb.length))++rs.drop q).length=rs.length:=by simp;omega
  rw[hrl] at hrve
  have hdv:=hR.rangesCell
  rw[hrve] at hdv
  by_cases hlt:q<rs.length
  · have hlI:(q:Int)<(rs.length:Int):=by omega
    obtain⟨z,hz⟩:∃ z,rs[q]?=some z:=⟨_,List.getElem?_eq_getElem hlt⟩
    obtain⟨g,c',hrve2,hgl,hFg,hgd,hgn,e0,e1,e2,e3,hfr⟩:=hR.spanCells (YR (mvSp (Zl n k c lb.length)) rs q z hz)
    rw[hrl] at hrve2
    rw[hrve] at hrve2
    cases hrve2
    obtain⟨za,zb,zc,zd⟩:=z
    obtain⟨hb0,hb1,hd0,hd1⟩:=HSM.out _ (List.mem_of_getElem? hz)
    simp only at hb0 hb1 hd0 hd1 e0 e1 e2 e3
    have CS:=hid (ZaP za zb n k c lb.length wr.drew (by omega) (by omega) (by omega) (by omega) (by omega) (by omega) (by omega) (by omega))
    have CS2:=hid (fun (wc:World)=>ZaP zc zd n k c lb.length wc.drew (by omega) (by omega) (by omega) (by omega) (by omega) (by omega) (by omega) (by omega))
    have hbdg:¬ bd=g:=fun e=>hgd e.symm
    have HZ:=hid (YR (mvSp (Zl n k c lb.length)) rs q _ hz)
    have HZ0:=hid hz
    have HRV:=hid hrve
    have HR:=hid hR
    have HK:=hid hK
    have HF:=hid hF
    have HFG:=hid hFg
    have hqf:q<((rs.take q).map (mvSp (Zl n k c lb.length))++rs.drop q).length:=by rw[hrl];exact hlt
    obtain⟨v0,v1,hv01⟩:∃ v0 v1,(Zl n k c lb.length) za zb=(v0,v1):=⟨_,_,rfl⟩
    obtain⟨u0,u1,hu01⟩:∃ u0 u1,(Zl n k c lb.length) zc zd=(u0,u1):=⟨_,_,rfl⟩
    rw[hv01] at CS
    rw[hu01] at CS2
    have hmz:mvSp (Zl n k c lb.length) ⟨za,zb,zc,zd⟩=⟨v0,v1,u0,u1⟩:=by
     unfold mvSp
     simp only[hv01,hu01]
    have HMZ:=hid hmz
    clear hR hK hF hz hv01 hu01 hmz
    go_wp2
    go_cut [] from 52 to 71 (fun wc=>Zf wc (fun b=>(F b∧b<w.heap.size)∨w.heap.size≤b) bd bn cap rn2 rv SX (((rs.take q).map (mvSp (Zl n k c lb.length))++rs.drop q).set q ⟨v0,v1,zc,zd⟩)∧Zb F w wc∧True)
    case first =>
     go_region_with ((
      go_at_call 167
      refine CS.out.mono ?_
      clear CS
      rintro e w1 ⟨rfl,hb1⟩
      have hB1:Below wr.heap.size wr w1:=⟨hb1.os,hb1.tape,hb1.output,hb1.size,hb1.block⟩
      have k1:=(hB1.cell (p:=⟨bd,1,none⟩) hlr.1).trans hdv
      obtain⟨n0,n1,n2,n3,nf⟩:=(HR.out.below hB1).spanAt HZ.out HRV.out
      have f0:=nf (q*4)
      have f1:=nf (q*4+1)
      clear nf n2 n3
      have HB1:=hid hB1
      clear hb1 hB1))
     all_goals
      go_wp2_with fail
      go_meet
      case rel =>
       have d1:=(HR.out.below HB1.out).setSp (by rw[hrl];exact HRV.out) HZ.out (r':=⟨v0,zb,zc,zd⟩) 0 (by omega) (.int .i64 v0) rfl
       have d2:=d1.setSp (by rw[List.length_set,hrl];exact HRV.out) (List.getElem?_set_self hqf) (r':=⟨v0,v1,zc,zd⟩) 1 (by omega) (.int .i64 v1) rfl
       rw[List.set_set] at d2
       refine⟨d2,((HK.out.trans (Zb.of_below HB1.out)).setCell (p:=⟨g,q*4+0,none⟩) (HFG.out.imp And.left id) _).setCell (p:=⟨g,q*4+1,none⟩) (HFG.out.imp And.left id) _,?_⟩
       trivial
    case rest =>
     obtain⟨hR,hK,hF⟩:=hcut
     have HZ:=hid (List.getElem?_set_self (a:=(⟨v0,v1,zc,zd⟩:Sp)) hqf)
     obtain⟨e0,e1,e2,e3,hfr⟩:=hR.spanAt HZ.out HRV.out
     have hdv:=hR.rangesCell
     rw[HRV.out] at hdv
     have hlr:=hR.lt
     have hgl:g<wc.heap.size:=World.block_lt_of_cell? wc _ e0
     have CS:=hid (CS2.out wc)
     clear CS2
     have HR:=hid hR
     have HK:=hid hK
     have HF:=hid hF
     clear hR hK hF
     go_wp2
     go_region_with ((
      go_at_call 167
      refine CS.out.mono ?_
      clear CS
      rintro e w1 ⟨rfl,hb1⟩
      have hB1:Below wc.heap.size wc w1:=⟨hb1.os,hb1.tape,hb1.output,hb1.size,hb1.block⟩
      have k1:=(hB1.cell (p:=⟨bd,1,none⟩) hlr.1).trans hdv
      obtain⟨n0,n1,n2,n3,nf⟩:=(HR.out.below hB1).spanAt HZ.out HRV.out
      have f2:=nf (q*4+2)
      have f3:=nf (q*4+3)
      clear nf n0 n1
      have HB1:=hid hB1
      clear hb1 hB1))
     all_goals
      go_wp2_with fail
      go_roundw
      case rel =>
       have d1:=(HR.out.below HB1.out).setSp (by rw[List.length_set,hrl];exact HRV.out) HZ.out (r':=⟨v0,v1,u0,zd⟩) 2 (by omega) (.int .i64 u0) rfl
       rw[List.set_set] at d1
       have d2:=d1.setSp (by rw[List.length_set,hrl];exact HRV.out) (List.getElem?_set_self hqf) (r':=⟨v0,v1,u0,u1⟩) 3 (by omega) (.int .i64 u1) rfl
       rw[List.set_set] at d2
       have hs:=Jm (mvSp (Zl n k c lb.length)) rs q _ HZ0.out
       rw[HMZ.out] at hs
       rw[hs] at d2
       refine⟨q+1,by omega,by go_num,d2,((HK.out.trans (Zb.of_below HB1.out)).setCell (p:=⟨g,q*4+2,none⟩) (HFG.out.imp And.left id) _).setCell (p:=⟨g,q*4+3,none⟩) (HFG.out.imp And.left id) _,?_⟩
       trivial
      case measure=>simp[Yj,intOf];omega
  · obtain rfl:q=rs.length:=by omega
    have hlI:¬ (rs.length:Int)<(rs.length:Int):=by omega
    rw[List.take_of_length_le (Nat.le_refl _),List.drop_of_length_le (Nat.le_refl _),List.append_nil] at hR
    have HR:=hid hR
    have HK:=hid hK
    clear hR hK hF
    go_wp2
    go_end0
    refine⟨rfl,HK.out,bn,cap,rn2,rv,HR.out.wider ?_⟩
    intro b hb
    rcases hb with hb|hb
    · exact .inl hb.1
    · exact .inr hb
theorem Zho (hD:Zf w F bd bn cap rn rv s rs) (n k c:Nat) (hk0:k=0) (hc0:c=0) (x:Nd) (hx:s[n]?=some x) (hlen:x.cs.length≤30) (r:RN) (hr:rn[n]?=some r) (hcv:r.cv=.slice none 0 0) (h0l:x.cs=[]) (bv:Value) (lb:List ByteArray) (hbig:lb.length < lots) (hby:w.ownsRow 0 9 1 bv lb.length (ZF lb)) (hsm:Small rs) (h6:rs.length≤6) (hl100:lb.length≤100) :
 Calls Tryz.prog 125 #[.pointer (some ⟨bd,0,none⟩),.int .i64 n,.int .i64 k,.int .i64 c,bv] w fun e w'=>e=.returned (.tuple #[])∧Zb F w w' ∧
  RDoc w' (fun b=>F b∨w.heap.size≤b) bd (s.set n { x with cs:=lb }) (rs.map (mvSp (Zl n k c lb.length))):=by
 have hkc100:(k:Int)≤100∧(c:Int)≤100:=by omega
 obtain⟨SX,hSX⟩:∃ SX,s.set n { x with cs:=lb }=SX:=⟨_,rfl⟩
 rw[hSX]
 have HSX:=hid hSX
 clear hSX
 obtain⟨ba,bcc,hbve⟩:=Zo hby
 subst hbve
 obtain⟨i0,hi,hz0,hz1,hz2⟩:=info_parts Tryz.info9
 have hn:n<s.length:=(List.getElem?_eq_some_iff.1 hx).1
 unfold lots at hbig
 have h0:=hD.nodesCell
 have hlt:=hD.lt
 have hsl0:∀ w,(Instr.slice 107 (.slice none 0 0) none (some (.int .i64 (k:Int))) none).run Tryz.prog w=.ok (.slice none 0 0) w:=fun w=>by rw[hk0];kernel_rfl
 have hsl:∀ w,(Instr.slice 107 (.slice none 0 0) (some (.int .i64 ((k:Int)+(c:Int)))) none none).run Tryz.prog w=.ok (.slice none 0 0) w:=fun w=>by rw[hk0,hc0];kernel_rfl
 have q1:IntKind.i64.wrap ((k:Int)+(c:Int))=(k:Int)+(c:Int):=by rw[hk0,hc0];rfl
 obtain⟨r',hr',ho,-,hc1,-,-⟩:=hD.look hx
 obtain rfl:r'=r:=Option.some.inj (hr'.symm.trans hr)
 rw[hcv] at hc1
 have HBY:=hid hby
 have HD:=hid hD
 have HX:=hid hx
 obtain⟨ra,rc,hrve⟩:∃ a c,rv=.slice a rs.length c:=Zo hD.ranges
 have hrv:=hD.rangesCell
 rw[hrve] at hrv
 clear hD hr ho hby hx hcv hk0 hc0
 go_enter Tryz.func125,Tryz.ntmps125
 go_wp2_with (first
  | (at_builtin;refine X1 _ rfl (.tmp 21) (.tmp 24) 107 rfl w.heap.size 9 i0 (.string ByteArray.empty) 1 16 Tryz.underlying107 hi hz0 hz1 hz2 rfl (by decide) (.slice none 0 0) 0 [] rfl (World.ownsRow_nil _ _ _ _) (.slice none 0 0) 0 [] rfl (.inl ⟨rfl,rfl,rfl⟩) (by unfold maxLen;omega) (by omega) (Nat.le_refl _) ?_
     intro v1 w1 ho1 hb1
     have HO1:=hid ho1
     have HB1:=hid hb1
     clear ho1 hb1)
  | (at_builtin;refine X1 _ rfl (.tmp 26) (.tmp 27) 107 rfl w.heap.size 9 i0 (.string ByteArray.empty) 1 16 Tryz.underlying107 hi hz0 hz1 hz2 rfl (by decide) v1 _ _ rfl HO1.out (.slice ba lb.length bcc) lb.length _ rfl (YD.of_row ((Zb.of_below (F:=fun _=>False) HB1.out).row HBY.out (fun _ _ e=>e)) (Jp _)) (by unfold maxLen;omega) (by omega) HB1.out.size ?_
     intro v2 w2 ho2 hb2
     have hb2':=HB1.out.trans hb2
     have d0:=(hb2'.cell (p:=⟨bd,0,none⟩) hlt.1).trans h0
     have dr:=(hb2'.cell (p:=⟨bd,1,none⟩) hlt.1).trans hrv
     have dc1:=(hb2'.cell (p:=⟨bn,n*4+1,none⟩) hlt.2).trans hc1
     have HO2:=hid ho2
     have HB2:=hid hb2'
     clear ho2 hb2 hb2'))
 have S3:Hid (YD w2.drew 1 (.slice none 0 0) 0 []):=.inl ⟨rfl,rfl,rfl⟩
 have HO2d:Hid (w2.drew.ownsRow w.heap.size 9 1 v2 lb.length (ZF lb)):=by
  have:=HO2.out.drew
  rw[Nat.zero_add,List.nil_append,List.nil_append] at this
  exact this
 have HF:=hid (fun w3 (hB:Below w.heap.size w w3)=>(HD.out.below hB).nodes.frozenAt (n*4+1))
 have HB2d:=hid (HB2.out.drew)
 have hne2:¬ bd=bn:=HD.out.ne
 have hne3:¬ bn=bd:=fun e=>HD.out.ne e.symm
 clear HO2 HO1 HB1 HBY
 go_region_held3 (fun w'=>w'.cell? ⟨bd,0,none⟩=some (.slice (some ⟨bn,0,none⟩) s.length cap)) (first|exact f0|go_keep) ((
  refine Zeo _ rfl (.tmp 34) (.tmp 39) 107 rfl w.heap.size 9 i0 (.string ByteArray.empty) 1 16 Tryz.underlying107 hi hz0 hz1 hz2 rfl (by decide) v2 lb.length _ (by simp[Act.eval,Act.put]) HO2d.out (.slice none 0 0) 0 [] (by simp[Act.eval,Act.put]) S3.out (by unfold maxLen;omega) (by omega) HB2d.out.size ?_
  intro v3 w3 ho3 hb3
  obtain⟨a3,c3,hv3⟩:=Zo ho3
  subst hv3
  have hB3:=HB2d.out.trans hb3
  have f0:=(hB3.cell (p:=⟨bd,0,none⟩) hlt.1).trans h0
  have fr:=(hB3.cell (p:=⟨bd,1,none⟩) hlt.1).trans hrv
  have f1:=(hB3.cell (p:=⟨bn,n*4+1,none⟩) hlt.2).trans hc1
  have ff:=HF.out w3 hB3
  have HO3:=hid ho3
  have HB3:=hid hB3
  clear ho3 hb3 hB3))
 have gr:(w3.setCell ⟨bn,n*4+1,none⟩ (.slice a3 (lb.length+0) c3)).cell? ⟨bd,1,none⟩=some (.slice ra rs.length rc):=by
  unfold World.cell?
  rw[Below.heap_setCell _ _ _ _ (by simpa using hne2)]
  exact fr
 have hrow3:w3.ownsRow w.heap.size 9 1 (.slice a3 (lb.length+0) c3) lb.length (ZF lb):=by
  have:=HO3.out
  rw[List.append_nil] at this
  exact this
 obtain⟨rn2,h3⟩:=(HD.out.narrow.below HB3.out).newChars (N:=w.heap.size) (fun b e=>e.2) HX.out hrow3
 rw[HSX.out] at h3
 have hk3:Zb F w (w3.setCell ⟨bn,n*4+1,none⟩ (.slice a3 (lb.length+0) c3)):=(Zb.of_below HB3.out).setCell (p:=⟨bn,n*4+1,none⟩) (.inl HD.out.Fn) _
 have HSM:=hid hsm
 have H3:=hid h3
 have HK3:=hid hk3
 clear hsm h3 hk3
 go_wp2
 go_loopw [12] (Jv w F (fun b=>(F b∧b<w.heap.size)∨w.heap.size≤b) bd bn cap rn2 rv SX rs (Zl n k c lb.length) (fun _=>True)) (fun t _=>Yj rs.length t)
 case atStart=>exact⟨0,Nat.zero_le _,rfl,by simpa using H3.out,HK3.out,trivial⟩
 case round =>
  obtain⟨q,hq,rfl,hR,hK,hF⟩:=hrel
  have hlr:=hR.lt
  obtain⟨ra',rc',hrve⟩:=Zo hR.ranges
  have hrl:((rs.take q).map (mvSp (Zl n k c lb.length))++rs.drop q).length=rs.length:=by simp;omega
  rw[hrl] at hrve
  have hdv:=hR.rangesCell
  rw[hrve] at hdv
  by_cases hlt:q<rs.length
  · have hlI:(q:Int)<(rs.length:Int):=by omega
    obtain⟨z,hz⟩:∃ z,rs[q]?=some z:=⟨_,List.getElem?_eq_getElem hlt⟩
    obtain⟨g,c',hrve2,hgl,hFg,hgd,hgn,e0,e1,e2,e3,hfr⟩:=hR.spanCells (YR (mvSp (Zl n k c lb.length)) rs q z hz)
    rw[hrl] at hrve2
    rw[hrve] at hrve2
    cases hrve2
    obtain⟨za,zb,zc,zd⟩:=z
    obtain⟨hb0,hb1,hd0,hd1⟩:=HSM.out _ (List.mem_of_getElem? hz)
    simp only at hb0 hb1 hd0 hd1 e0 e1 e2 e3
    have CS:=hid (ZaP za zb n k c lb.length wr.drew (by omega) (by omega) (by omega) (by omega) (by omega) (by omega) (by omega) (by omega))
    have CS2:=hid (fun (wc:World)=>ZaP zc zd n k c lb.length wc.drew (by omega) (by omega) (by omega) (by omega) (by omega) (by omega) (by omega) (by omega))
    have hbdg:¬ bd=g:=fun e=>hgd e.symm
    have HZ:=hid (YR (mvSp (Zl n k c lb.length)) rs q _ hz)
    have HZ0:=hid hz
    have HRV:=hid hrve
    have HR:=hid hR
    have HK:=hid hK
    have HF:=hid hF
    have HFG:=hid hFg
    have hqf:q<((rs.take q).map (mvSp (Zl n k c lb.length))++rs.drop q).length:=by rw[hrl];exact hlt
    obtain⟨v0,v1,hv01⟩:∃ v0 v1,(Zl n k c lb.length) za zb=(v0,v1):=⟨_,_,rfl⟩
    obtain⟨u0,u1,hu01⟩:∃ u0 u1,(Zl n k c lb.length) zc zd=(u0,u1):=⟨_,_,rfl⟩
    rw[hv01] at CS
    rw[hu01] at CS2
    have hmz:mvSp (Zl n k c lb.length) ⟨za,zb,zc,zd⟩=⟨v0,v1,u0,u1⟩:=by
     unfold mvSp
     simp only[hv01,hu01]
    have HMZ:=hid hmz
    clear hR hK hF hz hv01 hu01 hmz
    go_wp2
    go_cut [] from 52 to 71 (fun wc=>Zf wc (fun b=>(F b∧b<w.heap.size)∨w.heap.size≤b) bd bn cap rn2 rv SX (((rs.take q).map (mvSp (Zl n k c lb.length))++rs.drop q).set q ⟨v0,v1,zc,zd⟩)∧Zb F w wc∧True)
    case first =>
     go_region_with ((
      go_at_call 167
      refine CS.out.mono ?_
      clear CS
      rintro e w1 ⟨rfl,hb1⟩
      have hB1:Below wr.heap.size wr w1:=⟨hb1.os,hb1.tape,hb1.output,hb1.size,hb1.block⟩
      have k1:=(hB1.cell (p:=⟨bd,1,none⟩) hlr.1).trans hdv
      obtain⟨n0,n1,n2,n3,nf⟩:=(HR.out.below hB1).spanAt HZ.out HRV.out
      have f0:=nf (q*4)
      have f1:=nf (q*4+1)
      clear nf n2 n3
      have HB1:=hid hB1
      clear hb1 hB1))
     all_goals
      go_wp2_with fail
      go_meet
      case rel =>
       have d1:=(HR.out.below HB1.out).setSp (by rw[hrl];exact HRV.out) HZ.out (r':=⟨v0,zb,zc,zd⟩) 0 (by omega) (.int .i64 v0) rfl
       have d2:=d1.setSp (by rw[List.length_set,hrl];exact HRV.out) (List.getElem?_set_self hqf) (r':=⟨v0,v1,zc,zd⟩) 1 (by omega) (.int .i64 v1) rfl
       rw[List.set_set] at d2
       refine⟨d2,((HK.out.trans (Zb.of_below HB1.out)).setCell (p:=⟨g,q*4+0,none⟩) (HFG.out.imp And.left id) _).setCell (p:=⟨g,q*4+1,none⟩) (HFG.out.imp And.left id) _,?_⟩
       trivial
    case rest =>
     obtain⟨hR,hK,hF⟩:=hcut
     have HZ:=hid (List.getElem?_set_self (a:=(⟨v0,v1,zc,zd⟩:Sp)) hqf)
     obtain⟨e0,e1,e2,e3,hfr⟩:=hR.spanAt HZ.out HRV.out
     have hdv:=hR.rangesCell
     rw[HRV.out] at hdv
     have hlr:=hR.lt
     have hgl:g<wc.heap.size:=World.block_lt_of_cell? wc _ e0
     have CS:=hid (CS2.out wc)
     clear CS2
     have HR:=hid hR
     have HK:=hid hK
     have HF:=hid hF
     clear hR hK hF
     go_wp2
     go_region_with ((
      go_at_call 167
      refine CS.out.mono ?_
      clear CS
      rintro e w1 ⟨rfl,hb1⟩
      have hB1:Below wc.heap.size wc w1:=⟨hb1.os,hb1.tape,hb1.output,hb1.size,hb1.block⟩
      have k1:=(hB1.cell (p:=⟨bd,1,none⟩) hlr.1).trans hdv
      obtain⟨n0,n1,n2,n3,nf⟩:=(HR.out.below hB1).spanAt HZ.out HRV.out
      have f2:=nf (q*4+2)
      have f3:=nf (q*4+3)
      clear nf n0 n1
      have HB1:=hid hB1
      clear hb1 hB1))
     all_goals
      go_wp2_with fail
      go_roundw
      case rel =>
       have d1:=(HR.out.below HB1.out).setSp (by rw[List.length_set,hrl];exact HRV.out) HZ.out (r':=⟨v0,v1,u0,zd⟩) 2 (by omega) (.int .i64 u0) rfl
       rw[List.set_set] at d1
       have d2:=d1.setSp (by rw[List.length_set,hrl];exact HRV.out) (List.getElem?_set_self hqf) (r':=⟨v0,v1,u0,u1⟩) 3 (by omega) (.int .i64 u1) rfl
       rw[List.set_set] at d2
       have hs:=Jm (mvSp (Zl n k c lb.length)) rs q _ HZ0.out
       rw[HMZ.out] at hs
       rw[hs] at d2
       refine⟨q+1,by omega,by go_num,d2,((HK.out.trans (Zb.of_below HB1.out)).setCell (p:=⟨g,q*4+2,none⟩) (HFG.out.imp And.left id) _).setCell (p:=⟨g,q*4+3,none⟩) (HFG.out.imp And.left id) _,?_⟩
       trivial
      case measure=>simp[Yj,intOf];omega
  · obtain rfl:q=rs.length:=by omega
    have hlI:¬ (rs.length:Int)<(rs.length:Int):=by omega
    rw[List.take_of_length_le (Nat.le_refl _),List.drop_of_length_le (Nat.le_refl _),List.append_nil] at hR
    have HR:=hid hR
    have HK:=hid hK
    clear hR hK hF
    go_wp2
    go_end0
    refine⟨rfl,HK.out,bn,cap,rn2,rv,HR.out.wider ?_⟩
    intro b hb
    rcases hb with hb|hb
    · exact .inl hb.1
    · exact .inr hb
theorem J5 (hD:Zf w F bd bn cap rn rv s rs) (n k c:Nat) (x:Nd) (hx:s[n]?=some x) (hlen:x.cs.length≤30) (hk:k+c≤x.cs.length) (bv:Value) (lb:List ByteArray) (hbig:lb.length < lots) (hby:w.ownsRow 0 9 1 bv lb.length (ZF lb)) (hsm:Small rs) (h6:rs.length≤6) (hl100:lb.length≤100) :
 Calls Tryz.prog 125 #[.pointer (some ⟨bd,0,none⟩),.int .i64 n,.int .i64 k,.int .i64 c,bv] w fun e w'=>e=.returned (.tuple #[])∧Zb F w w' ∧
  RDoc w' (fun b=>F b∨w.heap.size≤b) bd (s.set n { x with cs:=x.cs.take k++lb++x.cs.drop (k+c) }) (rs.map (mvSp (Zl n k c lb.length))):=by
 obtain⟨r,hr,ho⟩:=hD.raw hx
 rcases ZB ho.chars with ⟨hv,h0⟩|⟨g,cc,hgv⟩
 · have h0l:x.cs=[]:=List.length_eq_zero_iff.1 h0
   have hk0:k=0:=by omega
   have hc0:c=0:=by omega
   have e:x.cs.take k++lb++x.cs.drop (k+c)=lb:=by rw[h0l];simp
   rw[e]
   exact Zho hD n k c hk0 hc0 x hx hlen r hr hv h0l bv lb hbig hby hsm h6 hl100
 · exact Zhp hD n k c x hx hlen r hr g cc hgv hk bv lb hbig hby hsm h6 hl100
end
end
end Go.Proofs.YtabogkonklplcaaGreatDoor
