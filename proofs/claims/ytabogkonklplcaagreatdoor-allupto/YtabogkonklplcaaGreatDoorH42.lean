import Derived.Test.YtabogkonklplcaaGreatDoorH17
import Derived.Test.YtabogkonklplcaaGreatDoorH30
import Derived.Test.YtabogkonklplcaaGreatDoorH23
import Derived.Test.YtabogkonklplcaaGreatDoorH14
import Derived.Deep.QuietTactic
import Derived.BigQuiet
namespace Go.Proofs.YtabogkonklplcaaGreatDoor
set_option linter.unusedSimpArgs false
set_option linter.unusedVariables false
set_option maxRecDepth 20000
set_option maxHeartbeats 8000000
section
open Go.RowKit
section
variable {w:World} {F:Nat→Prop} {bd bn cap:Nat} {rn:List RN} {rv:Value} {s:List Nd} {rs:List Sp}
theorem rread_no (hD:Zf w F bd bn cap rn rv s rs) (r:Int) (h:r < 0∨(rs.length:Int)≤r) :
 Calls Tryz.prog 85 #[.pointer (some ⟨bd,0,none⟩),.int .i64 r] w fun e w'=>e=.returned (.tuple #[.string ⟨#[]⟩,Zi r 8])∧Below w.heap.size w w':=by
 have CR:=hid (fun W (hb:Below w.heap.size w W)=>ZaU (hD.below hb) r h)
 have h1b:((8:Int) == 0)=false:=rfl
 have HB0:Hid (Below w.heap.size w (w.alloc (.cells #[.int .i64 0,.int .i64 0] 32))):=(Below.refl _ w).alloc (Nat.le_refl _) _
 have HF0:=hid (heap_alloc_new w (.cells #[.int .i64 0,.int .i64 0] 32))
 clear hD h
 go_enter Tryz.func85,Tryz.ntmps85
 go_wp2_with (first
  | (go_at_call 131;refine(CR.out _ HB0.out).mono ?_;rintro e w1 ⟨rfl,hb1⟩
     have H1:=hid hb1
     have hs1:=hb1.size
     clear hb1)
  | (go_at_call 124;refine(Zy r 8 _).mono ?_;rintro e w2 ⟨rfl,hb2⟩
     have hf2:w2.heap[w1.heap.size]?=some (.cells #[.int .i64 r,.int .i64 8] 32 (0,0)):=(hb2.block _ (by simp)).trans (heap_alloc_new w1 _)
     have hB2:Below (w.alloc (.cells #[.int .i64 0,.int .i64 0] 32)).heap.size (w.alloc (.cells #[.int .i64 0,.int .i64 0] 32)) w2:=(H1.out.alloc H1.out.size _).trans (hb2.mono (Nat.le_trans H1.out.size (by simp)))
     have s1:=(hB2.block w.heap.size (by simp)).trans HF0.out
     have cf0:w2.cell? ⟨w1.heap.size,0,none⟩=some (.int .i64 r):=Za hf2 0
     have cf1:w2.cell? ⟨w1.heap.size,1,none⟩=some (.int .i64 8):=Za hf2 1
     have za0:w2.cell? ⟨w.heap.size,0,none⟩=some (.int .i64 0):=Za s1 0
     have za1:w2.cell? ⟨w.heap.size,1,none⟩=some (.int .i64 0):=Za s1 1
     have fa0:=Zd s1 0
     have fa1:=Zd s1 1
     have hsa:=Zc s1
     have hsf:=Zc hf2
     have hne:¬ w1.heap.size=w.heap.size:=by simp at hs1;omega
     have HB2:=hid (HB0.out.trans (hB2.mono HB0.out.size))
     clear hb2 hf2 hB2 s1
     rw[h1b]))
 go_region
 all_goals
  go_wp2
  refine bodyPost_ret (v:=.tuple #[.string ⟨#[]⟩,Zi r 8]) (by simp[results,Tryz.results85,go_sem, *]) rfl ?_
  refine⟨rfl,?_⟩
  have hB:=HB2.out
  have hz:=hB.size
  go_grown
theorem rread_ok (wf:WF s) {h:Nat→Nat} {B:Nat} (u:Up s h B) (hD:Zf w F bd bn cap rn rv s rs) (r a b c d t i j:Nat) (hx:rs[r]?=some ⟨a,b,c,d⟩) (ha:a < s.length) (ta:Zm s a t) (hi:(plF s (B+1) t)[i]?=some (a,b)) (hj:(plF s (B+1) t)[j]?=some (c,d)) (hij:i≤j) :
 Calls Tryz.prog 85 #[.pointer (some ⟨bd,0,none⟩),.int .i64 (r:Int)] w fun e w'=>e=.returned (.tuple #[.string (catB (Yz s (plF s (B+1) t) i (j - i))),Zi 0 0])∧Below w.heap.size w w':=by
 have hr:r<rs.length:=(List.getElem?_eq_some_iff.1 hx).1
 have CR:=hid (fun W (hb:Below w.heap.size w W)=>YT (hD.below hb) r hr)
 have CT:=hid (fun W (hb:Below w.heap.size w W)=>Za3 wf (hD.below hb) a ha)
 have CP:=hid (fun W (hb:Below w.heap.size w W)=>ZbY wf u (B+1) t ta.lt (by have:=u.le t;omega) W (hD.below hb))
 have HLEN:=Nat.le_trans (ZaL wf (B+1) t ta.lt) (Nat.mul_le_mul_left 41 (Yr wf (B+1) t ta.lt))
 have h1b:((0:Int) == 0)=true:=rfl
 have hlt:=hD.lt
 have hrv:=hD.rangesCell
 obtain⟨g,rc,hrve⟩:∃ g c,rv=.slice (some ⟨g,0,none⟩) rs.length c:=by
  rcases ZB hD.ranges with ⟨_,h0⟩|⟨g,c,h⟩
  · omega
  · exact⟨g,c,h⟩
 have hrow:=hD.ranges
 rw[hrve] at hrv hrow
 have hgl:g<w.heap.size:=(hrow.lt g rfl).2
 have e0:w.cell? ⟨g,r*4,none⟩=some (.int .i64 (a:Int)):=by have:=hrow.cellAt (r*4+0) (by omega);rw[ZX rs r _ hx 0 (by omega)] at this;simpa[Sp.cells] using this
 have e1:w.cell? ⟨g,r*4+1,none⟩=some (.int .i64 (b:Int)):=by have:=hrow.cellAt (r*4+1) (by omega);rw[ZX rs r _ hx 1 (by omega)] at this;simpa[Sp.cells] using this
 have e2:w.cell? ⟨g,r*4+2,none⟩=some (.int .i64 (c:Int)):=by have:=hrow.cellAt (r*4+2) (by omega);rw[ZX rs r _ hx 2 (by omega)] at this;simpa[Sp.cells] using this
 have e3:w.cell? ⟨g,r*4+3,none⟩=some (.int .i64 (d:Int)):=by have:=hrow.cellAt (r*4+3) (by omega);rw[ZX rs r _ hx 3 (by omega)] at this;simpa[Sp.cells] using this
 have HB0:Hid (Below w.heap.size w (w.alloc (.cells #[.int .i64 0,.int .i64 0] 32))):=(Below.refl _ w).alloc (Nat.le_refl _) _
 have HF0:=hid (heap_alloc_new w (.cells #[.int .i64 0,.int .i64 0] 32))
 have HD:=hid hD
 have TA:=hid ta
 clear hD hrow hx ta
 go_enter Tryz.func85,Tryz.ntmps85
 go_wp2_with (first
  | (go_at_call 131;refine(CR.out _ HB0.out).mono ?_;rintro e w1 ⟨rfl,hb1⟩
     have H1:=hid hb1
     have hs1:=hb1.size
     clear hb1)
  | (go_at_call 124;refine(Zy 0 0 _).mono ?_;rintro e w2 ⟨rfl,hb2⟩
     have hf2:w2.heap[w1.heap.size]?=some (.cells #[.int .i64 0,.int .i64 0] 32 (0,0)):=(hb2.block _ (by simp)).trans (heap_alloc_new w1 _)
     have hB2:Below (w.alloc (.cells #[.int .i64 0,.int .i64 0] 32)).heap.size (w.alloc (.cells #[.int .i64 0,.int .i64 0] 32)) w2:=(H1.out.alloc H1.out.size _).trans (hb2.mono (Nat.le_trans H1.out.size (by simp)))
     have s1:=(hB2.block w.heap.size (by simp)).trans HF0.out
     have HF2:=hid (And.intro hf2 s1)
     have hsa:=Zc s1
     have hsf:=Zc hf2
     have hne:¬ w1.heap.size=w.heap.size:=by simp at hs1;omega
     have HB2:=hid (HB0.out.trans (hB2.mono HB0.out.size))
     have d0:=(HB2.out.cell (p:=⟨bd,1,none⟩) hlt.1).trans hrv
     have m0:=(HB2.out.cell (p:=⟨g,r*4,none⟩) hgl).trans e0
     have m1:=(HB2.out.cell (p:=⟨g,r*4+1,none⟩) hgl).trans e1
     have m2:=(HB2.out.cell (p:=⟨g,r*4+2,none⟩) hgl).trans e2
     have m3:=(HB2.out.cell (p:=⟨g,r*4+3,none⟩) hgl).trans e3
     have HB3:=hid (HB2.out.alloc HB2.out.size (.cells #[.int .i64 (a:Int),.int .i64 (b:Int),.int .i64 (c:Int),.int .i64 (d:Int)] 79))
     have HS3:=hid (heap_alloc_new w2 (.cells #[.int .i64 (a:Int),.int .i64 (b:Int),.int .i64 (c:Int),.int .i64 (d:Int)] 79))
     clear hb2 hf2 hB2 s1
     rw[h1b])
  | (go_at_call 128;refine(CT.out _ HB3.out).mono ?_;rintro e w3 ⟨⟨t',rfl,ht'⟩,hw3⟩
     obtain rfl:=TA.out.one ht'
     replace hw3:=hw3.symm
     subst hw3
     clear ht')
  | (go_at_call 132;refine(CP.out _ HB3.out).mono ?_;rintro e w4 ⟨la,lc,rfl,hr4,hb4⟩
     have hs4:=(hb4.block w2.heap.size (by simp)).trans HS3.out
     have y0:=Za hs4 0
     have y1:=Za hs4 1
     have y2:=Za hs4 2
     have y3:=Za hs4 3
     have hb24:Below w2.heap.size w2 w4:=((Below.refl _ w2).alloc (Nat.le_refl _) _).trans (hb4.mono (by simp))
     have HF4:=hid (And.intro ((hb24.block _ (Zc HF2.out.1)).trans HF2.out.1) (And.intro ((hb24.block _ (Zc HF2.out.2)).trans HF2.out.2) hs4))
     have HB4:=hid (HB3.out.trans (hb4.mono HB3.out.size))
     have hr0:=Je hr4 (Nat.zero_le _)
     have HR4:=hid hr0
     have hbl:(plF s (B+1) t).length<lots:=by unfold lots;omega
     have CA:=hid (fun W (hb:Below w4.heap.size w4 W)=>XC (plF s (B+1) t) (.slice la (plF s (B+1) t).length lc) a b w4 W hr0 hbl hb)
     have CB:=hid (fun W (hb:Below w4.heap.size w4 W)=>XC (plF s (B+1) t) (.slice la (plF s (B+1) t).length lc) c d w4 W hr0 hbl hb)
     clear hr4 hb4 hs4 hb24 hr0)
  | (go_at_call 133;refine(CB.out _ HB5.out).mono ?_;rintro e w6 ⟨q6,rfl,hq6,hb6⟩
     obtain rfl:q6=(j:Int):=by rw[hq6.wh,Jp (Xd wf (B+1) t) hj]
     have HB6:=hid hb6
     clear hb6 hq6)
  | (go_at_call 133;refine(CA.out _ (Below.refl _ w4)).mono ?_;rintro e w5 ⟨q5,rfl,hq5,hb5⟩
     obtain rfl:q5=(i:Int):=by rw[hq5.wh,Jp (Xd wf (B+1) t) hi]
     have HB5:=hid hb5
     have hs5:=(hb5.block _ (Zc HF4.out.2.2)).trans HF4.out.2.2
     have z0:=Za hs5 0
     have z1:=Za hs5 1
     have z2:=Za hs5 2
     have z3:=Za hs5 3
     clear hb5 hq5 hs5))
 have hjl:j<(plF s (B+1) t).length:=(List.getElem?_eq_some_iff.1 hj).1
 go_loopw [12,13] (fun o q wr=>∃ k:Nat,k≤j - i∧q=.int .i64 ((i+k:Nat):Int)∧o=.string (catB (Yz s (plF s (B+1) t) i k))∧Below w6.heap.size w6 wr) (fun _ q _=>j+1 - (intOf q).toNat)
 case atStart=>exact⟨0,Nat.zero_le _,by simp,rfl,Below.refl _ _⟩
 case round =>
  obtain⟨k,hk,rfl,rfl,hb⟩:=hrel
  have hb6:Below w4.heap.size w4 wr:=HB6.out.trans (hb.mono HB6.out.size)
  have hbw:Below w.heap.size w wr:=HB4.out.trans (hb6.mono HB4.out.size)
  have hsz:(catB (Yz s (plF s (B+1) t) i k)).size<10000:=by
   have h1:=readR_ch wf (plF s (B+1) t) i k
   have h2:=Z3 _ h1.2
   have h3:=h1.1
   omega
  by_cases hlt:k<j - i
  · have hcI:((i+k:Nat):Int)+1≤(j:Int):=by omega
    obtain⟨m,hm⟩:∃ m,m=i+k:=⟨_,rfl⟩
    have hml:m+1<(plF s (B+1) t).length:=by omega
    obtain⟨p,hp⟩:∃ p,(plF s (B+1) t)[m]?=some p:=⟨_,List.getElem?_eq_getElem (by omega)⟩
    obtain⟨q,hq⟩:∃ q,(plF s (B+1) t)[m+1]?=some q:=⟨_,List.getElem?_eq_getElem hml⟩
    obtain⟨p1,p2⟩:=p
    obtain⟨q1,q2⟩:=q
    have hrw:=(Zb.of_below (F:=fun _=>False) hb6).row HR4.out (fun _ _ e=>e)
    obtain⟨gl,hla⟩:∃ gl,la=some ⟨gl,0,none⟩:=by
     rcases ZB hrw with ⟨_,hl0⟩|⟨g,cc,hgv⟩
     · omega
     · cases hgv;exact⟨_,rfl⟩
    subst hla
    have hgl4:gl<wr.heap.size:=(hrw.lt gl rfl).2
    have l0:wr.cell? ⟨gl,m*2,none⟩=some (.int .i64 (p1:Int)):=by rw[hrw.cellAt (m*2) (by omega),(Jg _ m _ hp).1]
    have l1:wr.cell? ⟨gl,m*2+1,none⟩=some (.int .i64 (p2:Int)):=by rw[hrw.cellAt (m*2+1) (by omega),(Jg _ m _ hp).2]
    have l2:wr.cell? ⟨gl,(m+1)*2,none⟩=some (.int .i64 (q1:Int)):=by rw[hrw.cellAt ((m+1)*2) (by omega),(Jg _ (m+1) _ hq).1]
    have l3:wr.cell? ⟨gl,(m+1)*2+1,none⟩=some (.int .i64 (q2:Int)):=by rw[hrw.cellAt ((m+1)*2+1) (by omega),(Jg _ (m+1) _ hq).2]
    have hp1:p1<s.length:=X5 wf (B+1) t TA.out.lt _ (XU (B+1) t _ (List.mem_of_getElem? hp))
    obtain⟨x,hx⟩:∃ x,s[p1]?=some x:=⟨_,List.getElem?_eq_getElem hp1⟩
    have hDr:=HD.out.below hbw
    have n0:=hDr.nodesCell
    have hnl:=hDr.lt
    obtain⟨rr,hrr,ho,c0,c1,_,_⟩:=hDr.look hx
    obtain⟨a1,d1,hv1⟩:=Zo ho.chars
    rw[hv1] at c1
    have hrow:=ho.chars
    rw[hv1] at hrow
    have hstep:=Zd2 s (plF s (B+1) t) i k
    have hmL:(m:Int)<((plF s (B+1) t).length:Int):=by omega
    have hmL1:(m:Int)+1<((plF s (B+1) t).length:Int):=by omega
    have hp1I:(p1:Int)<(s.length:Int):=by omega
    have hchb:chB s (plF s (B+1) t) (i+k)=if p1=q1∧x.t=true then x.cs[p2]?.toList else []:=by
     unfold chB
     rw[← hm,hp,hq]
     simp only[hx,Option.map_some,Option.some.injEq]
     rw[YY hx]
    rw[hchb] at hstep
    rw[← hm] at hcI ⊢
    have hm2000:m<2000:=by omega
    have r1:¬ bd=wr.heap.size:=by omega
    have r2:¬ bn=wr.heap.size:=by omega
    have r3:¬ gl=wr.heap.size:=by omega
    have HST:=hid hstep
    have HBR:=hid hb
    have HROW:=hid hrow
    have HTC:=hid (fun (ht:x.t=true) (he:p1=q1)=>Ziw (b':=q2) wf hx ht hp (by rw[he];exact hq))
    have HM:=hid hm
    have HCH:=hid (fun ch hc=>Zdm ((wf.chars p1 x hx).2 ch hc))
    generalize hacc:catB (Yz s (plF s (B+1) t) i k)=acc at hsz ⊢
    have HACC:=hid hacc
    clear hacc hrw hDr hrr ho hx hp hq hrow hchb hstep hb hb6 hbw hv1 hm
    by_cases he:p1=q1
    · subst he
      cases htx:x.t with
      | false =>
        rw[htx] at c0
        go_wp2
        go_quiet (fail)
        go_wp2
        go_roundw
        case rel =>
         refine⟨k+1,by omega,by have:=HM.out;go_num,?_,Zj ((HBR.out.alloc HBR.out.size _).alloc (by have:=HBR.out.size;simp;omega) _) _⟩
         rw[HST.out,htx,if_neg (fun h=>by cases h.2),List.append_nil,HACC.out]
        case measure=>have:=HM.out;simp[intOf];omega
      | true =>
        rw[htx] at c0
        have hp2:=HTC.out htx rfl
        have hp2I:(p2:Int)<(x.cs.length:Int):=by omega
        obtain⟨ch,hch⟩:∃ ch,x.cs[p2]?=some ch:=⟨_,List.getElem?_eq_getElem hp2⟩
        obtain⟨g1,hg1⟩:∃ g1,a1=some ⟨g1,0,none⟩:=by
         rcases ZB HROW.out with ⟨_,hl0⟩|⟨g,cc,hgv⟩
         · omega
         · cases hgv;exact⟨_,rfl⟩
        subst hg1
        have cc:wr.cell? ⟨g1,p2,none⟩=some (.string ch):=by
         rw[HROW.out.cellAt p2 (by omega)]
         simp[ZF,hch]
        have hg1l:g1<wr.heap.size:=(HROW.out.lt g1 rfl).2
        have r4:¬ g1=wr.heap.size:=by omega
        have hcs:ch.size<2000000:=by have:=HCH.out;have:=this ch (List.mem_of_getElem? hch);omega
        have HC:=hid hch
        clear hch
        go_wp2
        go_quiet (fail)
        go_wp2
        go_quiet (fail)
        go_wp2
        go_roundw
        case rel =>
         have e1:catB [ch]=ch:=by show ByteArray.empty++ch=ch;simp
         refine⟨k+1,by omega,by have:=HM.out;go_num,?_,Zj ((HBR.out.alloc HBR.out.size _).alloc (by have:=HBR.out.size;simp;omega) _) _⟩
         rw[HST.out,htx,if_pos ⟨trivial,rfl⟩,HC.out,Yo,HACC.out,Option.toList_some,e1]
        case measure=>have:=HM.out;simp[intOf];omega
    · have heI:¬ (p1:Int)=(q1:Int):=by omega
      have heD:((p1:Int) == (q1:Int))=false:=by simpa using heI
      have heD2:decide ((p1:Int)=(q1:Int))=false:=by simpa using heI
      go_wp2
      go_quiet (fail)
      go_wp2
      go_roundw
      case rel =>
       refine⟨k+1,by omega,by have:=HM.out;go_num,?_,Zj ((HBR.out.alloc HBR.out.size _).alloc (by have:=HBR.out.size;simp;omega) _) _⟩
       rw[HST.out,if_neg (fun h=>he h.1),List.append_nil,HACC.out]
      case measure=>have:=HM.out;simp[intOf];omega
  · obtain rfl:k=j - i:=by omega
    have hcI:¬ (((i+(j - i):Nat):Int)+1≤(j:Int)):=by omega
    obtain⟨f1,f2,_⟩:=HF4.out
    have g1:=(hb6.block _ (Zc f1)).trans f1
    have g2:=(hb6.block _ (Zc f2)).trans f2
    have cf0:=Za g1 0
    have cf1:=Za g1 1
    have za0:=Za g2 0
    have za1:=Za g2 1
    have fa0:=Zd g2 0
    have fa1:=Zd g2 1
    have hl1:=Zc g1
    have hl2:=Zc g2
    have HBW:=hid hbw
    clear f1 f2 g1 g2 hb hb6 hbw
    go_wp2
    go_region
    all_goals
     go_wp2
     refine bodyPost_ret (v:=.tuple #[.string (catB (Yz s (plF s (B+1) t) i (j - i))),Zi 0 0]) (by simp[results,Tryz.results85,go_sem, *]) rfl ?_
     refine⟨rfl,?_⟩
     have hB:=HBW.out
     have hz:=hB.size
     go_grown
end
end
end Go.Proofs.YtabogkonklplcaaGreatDoor
