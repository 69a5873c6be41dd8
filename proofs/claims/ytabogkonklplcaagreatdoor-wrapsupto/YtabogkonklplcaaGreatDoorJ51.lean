import Derived.Test.YtabogkonklplcaaGreatDoorJ44
import Derived.Test.YtabogkonklplcaaGreatDoorJ47
import Derived.Test.YtabogkonklplcaaGreatDoorJ25
namespace Go.Proofs.YtabogkonklplcaaGreatDoor
set_option linter.unusedSimpArgs false
set_option linter.unusedVariables false
set_option maxRecDepth 20000
set_option maxHeartbeats 8000000
section
open Go.RowKit
section
variable {w:World} {F:Nat→Prop} {bd bn cap:Nat} {rn:List RN} {rv:Value} {s:List Nd} {rs:List Sp}
theorem RSt.setAll {F0:Nat→Prop} {W X:World} {Fk:Nat→Prop} {bd bn cap:Nat} {rn:List RN} {rv:Value} {s:List Nd} {rs:List Sp} (hD:Zf X Fk bd bn cap rn rv s rs) (hsub:∀ b,Fk b→F0 b∨W.heap.size≤b) (hk:Zb F0 W X) {q g c:Nat} (hrv:rv=.slice (some ⟨g,0,none⟩) rs.length c) {z:Sp} (hr:rs[q]?=some z) (v0 v1 v2 v3:Int) :
 RSt F0 W bd ((((X.setCell ⟨g,q*4,none⟩ (.int .i64 v0)).setCell ⟨g,q*4+1,none⟩ (.int .i64 v1)).setCell ⟨g,q*4+2,none⟩ (.int .i64 v2)).setCell ⟨g,q*4+3,none⟩ (.int .i64 v3)) s (rs.set q ⟨v0,v1,v2,v3⟩):=by
 have hF:=(hD.apart g (by rw[hrv];rfl)).1
 have hg:F0 g∨W.heap.size≤g:=hsub g hF
 exact⟨Fk,⟨_,_,_,_,hD.setAll hrv hr v0 v1 v2 v3⟩,hsub,(((hk.setCell (p:=⟨g,q*4,none⟩) hg _).setCell (p:=⟨g,q*4+1,none⟩) hg _).setCell (p:=⟨g,q*4+2,none⟩) hg _).setCell (p:=⟨g,q*4+3,none⟩) hg _⟩
theorem insB_yes {s:List Nd} {L:List (Nat × Nat)} {a b c d n:Nat} {x:Nd} (hx:s[n]?=some x) (h:insB s L a b c d n=true):0≤x.p∧x.p.toNat < s.length:=by
 unfold insB at h
 rw[hx] at h
 simp only at h
 split at h
 · cases h
 · split at h
   · cases h
   · next y hy=>exact⟨by omega,(List.getElem?_eq_some_iff.1 hy).1⟩
theorem Zhf (wf:WF s) {h:Nat→Nat} {B:Nat} (u:Up s h B) (hD:Zf w F bd bn cap rn rv s rs) (r a b c d t i j:Nat) (hx:rs[r]?=some ⟨a,b,c,d⟩) (ha:a < s.length) (hc:c < s.length) (ta:Zm s a t) (hi:(plF s (B+1) t)[i]?=some (a,b)) (hj:(plF s (B+1) t)[j]?=some (c,d))
 (hac:a≠c∨(s[a]?.map (·.t))=some false) {xa:Nd} (hxa:s[a]?=some xa) {xc:Nd} (hxc:s[c]?=some xc) (hb:b≤ZI xa) (hd:d≤ZI xc)
 {s1 s2 s3:List Nd} {f1 f2 f3:List Mvf} (h1:Chgs s (Ye s a b (csOf s a).length) s1 f1) (h2:Chgs s1 ((ZG s (plF s (B+1) t) a b c d (allF s (B+1) t)).map (fun i=>((i,none):Dact))) s2 f2) (h3:Chgs s2 (Ye s c 0 d) s3 f3)
 (hsp:∀ z∈rs,SpIs s z) (h6:rs.length≤6) (jp jq:Int)
 (hJ:∀ W,Below w.heap.size w W→Calls Tryz.prog 135 #[.pointer (some ⟨bd,0,none⟩),spV ⟨a,b,c,d⟩] W fun e w'=>e=.returned (.agg #[.int .i64 jp,.int .i64 jq])∧Below W.heap.size W w') :
 Calls Tryz.prog 86 #[.pointer (some ⟨bd,0,none⟩),.int .i64 (r:Int)] w fun e w'=>e=.returned (Zi 0 0)∧Zb F w w'∧RDoc w' (grow F w) bd s3 ((rs.map (mvSp (Zq (f1++f2++f3)))).set r ⟨jp,jq,jp,jq⟩):=by
 obtain⟨i0,hi0,hz0,hz1,hz2⟩:=info_parts Tryz.info3
 have hr:r<rs.length:=(List.getElem?_eq_some_iff.1 hx).1
 have hcap:=wf.cap
 have haI:(a:Int)<(s.length:Int):=by omega
 have hcI:(c:Int)<(s.length:Int):=by omega
 have CR:=hid (fun W (hb:Below w.heap.size w W)=>YU (hD.below hb) r hr)
 have CT:=hid (fun W (hb:Below w.heap.size w W)=>Za2 wf (hD.below hb) a ha)
 have CP:=hid (fun W (hb:Below w.heap.size w W)=>ZbZ wf u (B+1) t ta.lt (by have:=u.le t;omega) W (hD.below hb))
 have CA:=hid (fun W (hb:Below w.heap.size w W)=>rall_any wf u (B+1) t ta.lt (by have:=u.le t;omega) W (hD.below hb))
 have HLEN:=Nat.le_trans (ZaL wf (B+1) t ta.lt) (Nat.mul_le_mul_left 41 (Yr wf (B+1) t ta.lt))
 have h1b:((0:Int) == 0)=true:=rfl
 have hlt:=hD.lt
 have hrv:=hD.rangesCell
 have n0:=hD.nodesCell
 obtain⟨rr,hrr,ho,c0,c1,c2,c3⟩:=hD.look hxa
 obtain⟨g,rc,hrve,hgl,_,_,_,e0,e1,e2,e3,_⟩:=hD.spanCells hx
 rw[hrve] at hrv
 have HB0:Hid (Below w.heap.size w (w.alloc (.cells #[.int .i64 0,.int .i64 0] 32))):=(Below.refl _ w).alloc (Nat.le_refl _) _
 have HF0:=hid (heap_alloc_new w (.cells #[.int .i64 0,.int .i64 0] 32))
 have HD:=hid (And.intro hD (And.intro hx (And.intro hrve (And.intro wf u))))
 have HJ:=hid hJ
 have HX:=hid (And.intro hxa (And.intro hxc (And.intro hb hd)))
 have HC:=hid (And.intro h1 (And.intro h2 (And.intro h3 hsp)))
 have HIJ:=hid (And.intro hi hj)
 have TA:=hid ta
 have HAC:=hid hac
 clear hD hx hrr ho c1 c2 c3 wf u hsp hc hxa hxc hb hd h1 h2 h3 hJ hi hj ta hrve hac
 go_enter Tryz.func86,Tryz.ntmps86
 go_wp2_with (first
  | (go_at_call 131;refine(CR.out _ HB0.out).mono ?_;rintro e w1 ⟨rfl,hb1⟩
     have H1:=hid hb1
     have hs1:=hb1.size
     clear hb1)
  | (go_at_call 124;refine(Zy 0 0 _).mono ?_;rintro e w2 ⟨rfl,hb2⟩
     have hf2:w2.heap[w1.heap.size]?=some (.cells #[.int .i64 0,.int .i64 0] 32 (0,0)):=(hb2.block _ (by simp)).trans (heap_alloc_new w1 _)
     have hB2:Below (w.alloc (.cells #[.int .i64 0,.int .i64 0] 32)).heap.size (w.alloc (.cells #[.int .i64 0,.int .i64 0] 32)) w2:=(H1.out.alloc H1.out.size _).trans (hb2.mono (Nat.le_trans H1.out.size (by simp)))
     have s1:=(hB2.block w.heap.size (by simp)).trans HF0.out
     have HF2:=hid (And.intro hf2 s1)
     have hsa:=Zc s1
     have hsf:=Zc hf2
     have HB2:=hid (HB0.out.trans (hB2.mono HB0.out.size))
     have d0:=(HB2.out.cell (p:=⟨bd,1,none⟩) hlt.1).trans hrv
     have m0:=(HB2.out.cell (p:=⟨g,r*4,none⟩) hgl).trans e0
     have m1:=(HB2.out.cell (p:=⟨g,r*4+1,none⟩) hgl).trans e1
     have m2:=(HB2.out.cell (p:=⟨g,r*4+2,none⟩) hgl).trans e2
     have m3:=(HB2.out.cell (p:=⟨g,r*4+3,none⟩) hgl).trans e3
     obtain⟨W3,hW3⟩:∃ W3,w2.alloc (.cells #[.int .i64 (a:Int),.int .i64 (b:Int),.int .i64 (c:Int),.int .i64 (d:Int)] 79)=W3:=⟨_,rfl⟩
     have HW3:=hid hW3
     have HB3:Hid (Below w.heap.size w W3):=by rw[← hW3];exact HB2.out.alloc HB2.out.size _
     have HS3:Hid (W3.heap[w2.heap.size]?=some (.cells #[.int .i64 (a:Int),.int .i64 (b:Int),.int .i64 (c:Int),.int .i64 (d:Int)] 79 (0,0))):=by rw[← hW3];exact heap_alloc_new w2 _
     have HF3:Hid (W3.heap[w1.heap.size]?=some (.cells #[.int .i64 0,.int .i64 0] 32 (0,0))∧W3.heap[w.heap.size]?=some (.cells #[.int .i64 0,.int .i64 0] 32 (0,0))):=by
      rw[← hW3,Below.heap_alloc _ _ _ hsf,Below.heap_alloc _ _ _ hsa]
      exact HF2.out
     clear hW3
     clear hb2 hf2 hB2 s1
     rw[h1b]))
 rw[HW3.out]
 have hw12:w.heap.size≤w1.heap.size∧w1.heap.size<w2.heap.size:=by simp at hs1;omega
 have hw1s:w.heap.size<w1.heap.size:=by simp at hs1;omega
 clear HW3 d0 m0 m1 m2 m3
 have k0:=(HB3.out.cell (p:=⟨bd,0,none⟩) hlt.1).trans n0
 have k1:=(HB3.out.cell (p:=⟨bn,a*4,none⟩) hlt.2).trans c0
 have y0:=Za HS3.out 0
 have y1:=Za HS3.out 1
 have y2:=Za HS3.out 2
 have y3:=Za HS3.out 3
 go_cut [51] from 33 to 50 (fun s51 wc=>s51=.bool false∧Below W3.heap.size W3 wc)
 case first =>
  rcases HAC.out with hne|htf
  · have hneI:¬ (a:Int)=(c:Int):=by omega
    have hneD:decide ((a:Int)=(c:Int))=false:=by simpa using hneI
    go_quiet (fail)
    go_wp2
    go_meet
    case rel=>exact⟨rfl,Zj (Below.refl _ _) _⟩
  · rw[HX.out.1] at htf
    simp only[Option.map_some,Option.some.injEq] at htf
    rw[htf] at k1
    by_cases hne:a=c
    · subst hne
      go_quiet (fail)
      go_wp2
      go_meet
      case rel=>exact⟨rfl,Zj (Below.refl _ _) _⟩
    · have hneI:¬ (a:Int)=(c:Int):=by omega
      have hneD:decide ((a:Int)=(c:Int))=false:=by simpa using hneI
      go_quiet (fail)
      go_wp2
      go_meet
      case rel=>exact⟨rfl,Zj (Below.refl _ _) _⟩
 case rest =>
  obtain⟨rfl,hbc⟩:=hcut
  have HB4:=hid (HB3.out.trans (hbc.mono HB3.out.size))
  have hs4:=(hbc.block _ (Zc HS3.out)).trans HS3.out
  have HF4:=hid (And.intro hs4 (And.intro ((hbc.block _ (Zc HF3.out.1)).trans HF3.out.1) ((hbc.block _ (Zc HF3.out.2)).trans HF3.out.2)))
  have x0:=Za hs4 0
  have x1:=Za hs4 1
  have x2:=Za hs4 2
  have x3:=Za hs4 3
  clear k0 k1 y0 y1 y2 y3 hs4 HF3 HS3 HB3 hbc HF2 HB2 HB0 HF0 H1 hs1 e0 e1 e2 e3 c0
  go_wp2_with (first
   | (go_at_call 128;refine(CT.out _ HB7w.out).mono ?_;rintro e w8 ⟨⟨t',rfl,ht'⟩,hw8⟩
      obtain rfl:=TA.out.one ht'
      replace hw8:=hw8.symm
      subst hw8
      clear ht')
   | (go_at_call 128;refine(CT.out _ HB4.out).mono ?_;rintro e w5 ⟨⟨t',rfl,ht'⟩,hw5⟩
      obtain rfl:=TA.out.one ht'
      replace hw5:=hw5.symm
      subst hw5
      clear ht')
   | (go_at_call 49;refine(CA.out _ HB7w.out).mono ?_;rintro e w9 ⟨aa,ac,rfl,hr9,hb9⟩
      have HR9:=hid (And.intro hr9 hb9)
      clear hr9 hb9)
   | (go_at_call 132;refine(CP.out _ HB4.out).mono ?_;rintro e w5 ⟨la,lc,rfl,hr5,hb5⟩
      have HF5:=hid (And.intro ((hb5.block _ (Zc HF4.out.1)).trans HF4.out.1) (And.intro ((hb5.block _ (Zc HF4.out.2.1)).trans HF4.out.2.1) ((hb5.block _ (Zc HF4.out.2.2)).trans HF4.out.2.2)))
      have y0:=Za HF5.out.1 0
      have y1:=Za HF5.out.1 1
      have y2:=Za HF5.out.1 2
      have y3:=Za HF5.out.1 3
      have HB5:=hid (HB4.out.trans (hb5.mono HB4.out.size))
      have hr0:=Jh hr5 (Nat.zero_le _)
      have HR5:=hid hr0
      have hbl:(plF s (B+1) t).length<lots:=by unfold lots;omega
      have CWA:=hid (fun W (hb:Below w5.heap.size w5 W)=>XD (plF s (B+1) t) (.slice la (plF s (B+1) t).length lc) a b w5 W hr0 hbl hb)
      have CWB:=hid (fun W (hb:Below w5.heap.size w5 W)=>XD (plF s (B+1) t) (.slice la (plF s (B+1) t).length lc) c d w5 W hr0 hbl hb)
      clear hr5 hb5 hr0)
   | (go_at_call 133;refine(CWB.out _ HB6.out).mono ?_;rintro e w7 ⟨q7,rfl,hq7,hb7⟩
      obtain rfl:q7=wh (plF s (B+1) t) (c,d):=hq7.wh
      have HB7:=hid hb7
      have HB7w:=hid (HB5.out.trans (hb7.mono HB5.out.size))
      have HF7:=hid (And.intro ((hb7.block _ (Zc HF5.out.1)).trans HF5.out.1) (And.intro ((hb7.block _ (Zc HF5.out.2.1)).trans HF5.out.2.1) ((hb7.block _ (Zc HF5.out.2.2)).trans HF5.out.2.2)))
      have v0:=Za HF7.out.1 0
      have v1:=Za HF7.out.1 1
      have v2:=Za HF7.out.1 2
      have v3:=Za HF7.out.1 3
      clear hb7 hq7)
   | (go_at_call 133;refine(CWA.out _ (Below.refl _ w5)).mono ?_;rintro e w6 ⟨q6,rfl,hq6,hb6⟩
      obtain rfl:q6=wh (plF s (B+1) t) (a,b):=hq6.wh
      have HB6:=hid hb6
      have hs6:=(hb6.block _ (Zc HF5.out.1)).trans HF5.out.1
      have z0:=Za hs6 0
      have z1:=Za hs6 1
      have z2:=Za hs6 2
      have z3:=Za hs6 3
      clear hb6 hq6 hs6))
  obtain⟨L,hL⟩:∃ L,allF s (B+1) t=L:=⟨_,rfl⟩
  obtain⟨Lp,hLp⟩:∃ Lp,plF s (B+1) t=Lp:=⟨_,rfl⟩
  have hR9:=HR9.out
  rw[hL] at hR9 ⊢
  rw[hLp]
  have hR5:=HR5.out
  rw[hLp] at hbl hR5
  have hLm:∀ n∈L,n<s.length:=by rw[← hL];exact X5 HD.out.2.2.2.1 (B+1) t TA.out.lt
  have hL40:L.length≤40:=by rw[← hL];exact Yr HD.out.2.2.2.1 (B+1) t TA.out.lt
  have HLL:=hid (And.intro hL hLp)
  have HB9:=hid (HB7.out.trans (hR9.2.mono HB7.out.size))
  have HB9w:=hid (HB7w.out.trans (hR9.2.mono HB7w.out.size))
  have HF9:=hid (And.intro ((hR9.2.block _ (Zc HF7.out.1)).trans HF7.out.1) (And.intro ((hR9.2.block _ (Zc HF7.out.2.1)).trans HF7.out.2.1) ((hR9.2.block _ (Zc HF7.out.2.2)).trans HF7.out.2.2)))
  have HRA:=hid (Jh hR9.1 (Nat.zero_le _))
  have HRP:=hid ((Zb.of_below (F:=fun _=>False) HB9.out).row hR5 (fun _ _ e=>e))
  clear hR9 hR5 hL hLp HR9 HR5 HB6 HB7 CWA CWB x0 x1 x2 x3 y0 y1 y2 y3 z0 z1 z2 z3 v0 v1 v2 v3 HF5 HF7 HF4 HB4 HB5 CT CP CA CR HB7w HLEN
  go_loopw [11,13] (fun t11 t13 wr=>∃ (k:Nat) (lv:Value),k≤L.length∧t11=lv∧t13=.int .i64 (k:Int)∧wr.ownsRow w9.heap.size 3 1 lv (ZG s Lp a b c d (L.take k)).length (Zg (ZG s Lp a b c d (L.take k)))∧Below w9.heap.size w9 wr) (fun _ t _=>Yj L.length t)
  case atStart=>exact⟨0,_,Nat.zero_le _,rfl,rfl,World.ownsRow_nil _ _ _ _,Below.refl _ _⟩
  case round =>
   obtain⟨k,lv,hk,h11,rfl,hrow,hbr⟩:=hrel
   replace h11:=h11.symm
   subst h11
   obtain⟨gl,cl,hv⟩:=Jn hrow
   subst hv
   have hbw:Below w.heap.size w wr:=HB9w.out.trans (hbr.mono HB9w.out.size)
   by_cases hlt:k<L.length
   · have hltI:(k:Int)<(L.length:Int):=by omega
     obtain⟨n,hn⟩:∃ n,L[k]?=some n:=⟨_,List.getElem?_eq_getElem hlt⟩
     have hns:n<s.length:=hLm n (List.mem_of_getElem? hn)
     have hnI:(n:Int)<(s.length:Int):=by omega
     obtain⟨x,hx⟩:∃ x,s[n]?=some x:=⟨_,List.getElem?_eq_getElem hns⟩
     have htk:L.take (k+1)=L.take k++[n]:=by rw[List.take_add_one,hn];rfl
     have hlv:=Zds s Lp a b c d (L.take k) n
     rw[← htk] at hlv
     have hll:(ZG s Lp a b c d (L.take k)).length≤40:=Nat.le_trans (JZ _ _ _ _ _ _ _) (by rw[List.length_take];omega)
     have hra:=(Zb.of_below (F:=fun _=>False) hbr).row HRA.out (fun _ _ e=>e)
     have hrp:=(Zb.of_below (F:=fun _=>False) hbr).row HRP.out (fun _ _ e=>e)
     obtain⟨gA,hgA⟩:∃ gA,aa=some ⟨gA,0,none⟩:=by
      rcases ZB hra with ⟨_,hl0⟩|⟨g,c3,hgv⟩
      · omega
      · cases hgv;exact⟨_,rfl⟩
     subst hgA
     have cA:wr.cell? ⟨gA,k,none⟩=some (.int .i64 (n:Int)):=by
      rw[hra.cellAt k (by omega)]
      simp[Zg,hn]
     have hgA9:gA<wr.heap.size:=(hra.lt gA rfl).2
     have hDr:=HD.out.1.below hbw
     have CI:=hid (fun (m:Nat) (hm:m<s.length) W (hB:Below wr.heap.size wr W)=>Zhw HD.out.2.2.2.1 (hDr.below hB) Lp (.slice la Lp.length lc) a b c d m hm ((Zb.of_below (F:=fun _=>False) hB).row hrp (fun _ _ e=>e)) hbl)
     obtain⟨rr2,hrr2,ho2,q0,q1,q2,q3⟩:=hDr.look hx
     have qn:=hDr.nodesCell
     have hlr:=hDr.lt
     have HROW:=hid hrow
     have HBR:=hid hbr
     have HLV:=hid hlv
     clear hra hrp hDr hrr2 ho2 q0 q1 q2 hrow hbr htk hlv hbw
     cases hin:insB s Lp a b c d n with
     | false =>
       go_wp2_with (
        go_at_call 134
        refine(CI.out n hns _ (Below.refl _ _)).mono ?_
        rintro e w10 ⟨rfl,hb10⟩
        rw[hin]
        have HB10:=hid hb10
        clear hb10)
       go_roundw
       case rel =>
        have hg:Y1 s Lp a b c d n=false:=by unfold Y1;rw[hin];rfl
        refine⟨k+1,_,by omega,rfl,by simp,?_,HBR.out.trans (HB10.out.mono HBR.out.size)⟩
        have:=HLV.out
        rw[hg] at this
        simp only[Bool.false_eq_true,if_false,List.append_nil] at this
        rw[this]
        exact(Zb.of_below (F:=fun _=>False) HB10.out).rowB HROW.out (fun _ _ e=>e)
       case measure =>
        show L.length - ((k:Int)+1).toNat<L.length - ((k:Int)).toNat
        omega
     | true =>
       obtain⟨hp0,hpl⟩:=insB_yes hx hin
       obtain⟨p,hp⟩:∃ p:Nat,x.p=(p:Int):=⟨x.p.toNat,by omega⟩
       have hps:p<s.length:=by rw[hp] at hpl;simpa using hpl
       rw[hp] at q3
       cases hup:insB s Lp a b c d p with
       | true =>
         go_wp2_with (
          go_at_call 134
          refine(CI.out n hns _ (Below.refl _ _)).mono ?_
          rintro e w10 ⟨rfl,hb10⟩
          rw[hin]
          have HB10:=hid hb10
          have cA1:=(hb10.cell (p:=⟨gA,k,none⟩) hgA9).trans cA
          have qn1:=(hb10.cell (p:=⟨bd,0,none⟩) hlr.1).trans qn
          have q31:=(hb10.cell (p:=⟨bn,n*4+3,none⟩) hlr.2).trans q3
          clear hb10)
         go_region_held3 (fun w'=>w'.cell? ⟨bd,0,none⟩=some (.slice (some ⟨bn,0,none⟩) s.length cap)∧w'.cell? ⟨gA,k,none⟩=some (.int .i64 (n:Int))∧w'.cell? ⟨bn,n*4+3,none⟩=some (.int .i64 (p:Int))) (first|exact KP.out|go_keep) ((
          go_at_call 134
          refine(CI.out p hps _ HB10.out.drew).mono ?_
          rintro e w11 ⟨rfl,hb11⟩
          rw[hup]
          have HB11:=hid (HB10.out.trans ((show Below w10.heap.size w10 w11 from ⟨hb11.os,hb11.tape,hb11.output,hb11.size,hb11.block⟩).mono HB10.out.size))
          have KP:=hid (And.intro ((HB11.out.cell (p:=⟨bd,0,none⟩) hlr.1).trans qn) (And.intro ((HB11.out.cell (p:=⟨gA,k,none⟩) hgA9).trans cA) ((HB11.out.cell (p:=⟨bn,n*4+3,none⟩) hlr.2).trans q3)))
          clear hb11))
         go_wp2
         go_roundw
         case rel =>
          have hg:Y1 s Lp a b c d n=false:=by unfold Y1;rw[show Zw s n=x.p by unfold Zw;rw[hx],hp];simp[hup]
          refine⟨k+1,_,by omega,rfl,by simp,?_,HBR.out.trans (HB11.out.mono HBR.out.size)⟩
          have:=HLV.out
          rw[hg] at this
          simp only[Bool.false_eq_true,if_false,List.append_nil] at this
          rw[this]
          exact(Zb.of_below (F:=fun _=>False) HB11.out).rowB HROW.out (fun _ _ e=>e)
         case measure =>
          show L.length - ((k:Int)+1).toNat<L.length - ((k:Int)).toNat
          omega
       | false =>
         obtain⟨n9,hn9⟩:∃ n9,(ZG s Lp a b c d (L.take k)).length=n9:=⟨_,rfl⟩
         rw[hn9] at hll ⊢
         have hROW:=HROW.out
         rw[hn9] at hROW
         have HROW2:=hid hROW
         clear hROW
         have hz9:=HBR.out.size
         go_wp2_with (
          go_at_call 134
          refine(CI.out n hns _ (Below.refl _ _)).mono ?_
          rintro e w10 ⟨rfl,hb10⟩
          rw[hin]
          have HB10:=hid hb10
          have cA1:=(hb10.cell (p:=⟨gA,k,none⟩) hgA9).trans cA
          have qn1:=(hb10.cell (p:=⟨bd,0,none⟩) hlr.1).trans qn
          have q31:=(hb10.cell (p:=⟨bn,n*4+3,none⟩) hlr.2).trans q3
          clear hb10)
         go_region_held3 (fun w'=>w'.cell? ⟨bd,0,none⟩=some (.slice (some ⟨bn,0,none⟩) s.length cap)∧w'.cell? ⟨gA,k,none⟩=some (.int .i64 (n:Int))∧w'.cell? ⟨bn,n*4+3,none⟩=some (.int .i64 (p:Int))) (first|exact KP.out|go_keep) ((
          go_at_call 134
          refine(CI.out p hps _ HB10.out.drew).mono ?_
          rintro e w11 ⟨rfl,hb11⟩
          rw[hup]
          have HB11:=hid (HB10.out.trans ((show Below w10.heap.size w10 w11 from ⟨hb11.os,hb11.tape,hb11.output,hb11.size,hb11.block⟩).mono HB10.out.size))
          have KP:=hid (And.intro ((HB11.out.cell (p:=⟨bd,0,none⟩) hlr.1).trans qn) (And.intro ((HB11.out.cell (p:=⟨gA,k,none⟩) hgA9).trans cA) ((HB11.out.cell (p:=⟨bn,n*4+3,none⟩) hlr.2).trans q3)))
          have cA2:=(HB11.out.cell (p:=⟨gA,k,none⟩) hgA9).trans cA
          have HROW3:=hid ((Zb.of_below (F:=fun _=>False) HB11.out).rowB HROW2.out (fun _ _ e=>e))
          have hz11:=HB11.out.size
          clear hb11))
         go_wp2_with (
          at_builtin
          refine wpList_append_own_at _ rfl _ _ 24 rfl w9.heap.size 3 i0 (.int .i64 0) 1 8 Tryz.underlying24 hi0 hz0 hz1 hz2 rfl (by decide) (.slice gl n9 cl) _ _ rfl (HROW3.out.alloc _) ⟨w11.heap.size,0,none⟩ 1 1 [.int .i64 (n:Int)] rfl rfl (cell_one_new _ _ _) (by simp[Value.oneCell']) (by unfold maxLen;omega) (by omega) (by simp;omega) ?_
          intro v' w12 hown' hgrow _ hob
          obtain⟨g',cap',rfl⟩:=ownsRow_succ hown'
          have HW:=hid hown'
          have HG:=hid hgrow
          clear hown' hgrow hob)
         go_roundw
         case rel =>
          have hg:Y1 s Lp a b c d n=true:=by unfold Y1;rw[show Zw s n=x.p by unfold Zw;rw[hx],hp,hin];simp[hup]
          have:=HLV.out
          rw[hg] at this
          simp only[if_true] at this
          refine⟨k+1,_,by omega,rfl,by simp,?_,?_⟩
          · rw[this,List.length_append,hn9]
            have e1:Zg (ZG s Lp a b c d (L.take k)++[n])=Zg (ZG s Lp a b c d (L.take k))++[.int .i64 (n:Int)]:=by simp[Zg]
            rw[e1]
            exact HW.out
          · have hkA:Zb (fun b=>w9.heap.size≤b) wr w12:=((Zb.of_below HB11.out).alloc _).trans (Zb.grown HG.out (fun j e=>.inl (.inl (HROW2.out.lt j e).1)))
            have hk2:Zb (fun _=>False) w9 w12:=(Zb.of_below HBR.out).trans (hkA.mono (fun b _ e=>.inr e))
            exact hk2.below
         case measure =>
          show L.length - ((k:Int)+1).toNat<L.length - ((k:Int)).toNat
          omega
   · have hkl:k=L.length:=by omega
     subst hkl
     have hltI:¬ (L.length:Int)<(L.length:Int):=by omega
     rw[List.take_length] at hrow ⊢
     have hF9:=HF9.out
     have hs9:=(hbr.block _ (Zc hF9.1)).trans hF9.1
     have HFr:=hid (And.intro hs9 (And.intro ((hbr.block _ (Zc hF9.2.1)).trans hF9.2.1) ((hbr.block _ (Zc hF9.2.2)).trans hF9.2.2)))
     have x0:=Za hs9 0
     have x1:=Za hs9 1
     have x2:=Za hs9 2
     have x3:=Za hs9 3
     have HROW:=hid hrow
     have HBR:=hid hbr
     have HBW:=hid hbw
     have CJ:=hid (HJ.out wr hbw)
     have hsl:=Zc hs9
     clear hF9 hs9 hrow hbr hbw
     go_wp2_with (
      go_at_call 135
      refine CJ.out.mono ?_
      rintro e w20 ⟨rfl,hb20⟩
      have HB20:=hid hb20
      clear hb20)
     have hz20:=HB20.out.size
     obtain⟨W,hW⟩:∃ W,w20.alloc (.cells #[.int .i64 jp,.int .i64 jq] 37)=W:=⟨_,rfl⟩
     have hWb:Below wr.heap.size wr W:=by rw[← hW];exact HB20.out.alloc HB20.out.size _
     have hWp:W.heap[w20.heap.size]?=some (.cells #[.int .i64 jp,.int .i64 jq] 37 (0,0)):=by rw[← hW];exact heap_alloc_new w20 _
     rw[hW]
     clear hW
     have hFr:=HFr.out
     have hWs:=(hWb.block _ (Zc hFr.1)).trans hFr.1
     have hWf:=(hWb.block _ (Zc hFr.2.1)).trans hFr.2.1
     have hWr:=(hWb.block _ (Zc hFr.2.2)).trans hFr.2.2
     have hWl:=(Zb.of_below (F:=fun _=>False) hWb).rowB HROW.out (fun _ _ e=>e)
     have HBx:=hid (HBW.out.trans (hWb.mono HBW.out.size))
     have hz9:w.heap.size≤w9.heap.size:=HB9w.out.size
     have hzr:=HBR.out.size
     have KPW:=hid (fun (X:World) (hK:Zb (fun b=>F b∧b<w.heap.size) W X) =>
      And.intro ((hK.block _ (Zc hWs) (fun e=>Nat.not_lt.2 (Nat.le_trans hw12.1 (Nat.le_of_lt hw12.2)) e.2)).trans hWs)
       (And.intro ((hK.block _ (Zc hWf) (fun e=>Nat.not_lt.2 hw12.1 e.2)).trans hWf)
         (And.intro ((hK.block _ (Zc hWr) (fun e=>Nat.lt_irrefl _ e.2)).trans hWr)
           (And.intro ((hK.block _ (Zc hWp) (fun e=>by have:=e.2;omega)).trans hWp)
             (hK.rowB hWl (fun b e1 e2=>by have:=(hWl.lt b e1).1;have:=e2.2;omega))))))
     have ST0:Hid (RSt (fun b=>F b∧b<w.heap.size) W bd W s rs):=RSt.start ⟨bn,cap,rn,rv,HD.out.1.narrow.below HBx.out⟩
     have hWsl:=Zc hWr
     obtain⟨LV,hLV⟩:∃ LV,ZG s Lp a b c d L=LV:=⟨_,rfl⟩
     rw[hLV]
     have HLV:=hid hLV
     clear hWb hWp hFr hWs hWf hWr hWl x0 x1 x2 x3 HROW HBR HB20 CJ HJ HFr HF9 HRA HRP HBW hLV
     have hDW:=HD.out.1.below HBx.out
     have qn:=hDW.nodesCell
     obtain⟨rr2,hrr2,ho2,q0,q1,q2,q3⟩:=hDW.look HX.out.1
     have g0:=Za (KPW.out W (Zb.refl _ _)).1 0
     have g1:=Za (KPW.out W (Zb.refl _ _)).1 1
     obtain⟨ca,cc,hcv⟩:=Zo ho2.chars
     rw[hcv] at q1
     have hal:=(HD.out.2.2.2.1.chars _ _ HX.out.1).1
     have hcs:csOf s a=xa.cs:=YZ HX.out.1
     clear hrr2 ho2 q2 q3 hDW hcv
     go_quiet (fail)
     go_upto_if 144 with (fail)
     go_cut [] from 135 to 144 (fun wc=>RSt (fun b=>F b∧b<w.heap.size) W bd wc s1 (rs.map (mvSp (Zq f1))))
     case first =>
      obtain⟨hh1,hh2,hh3,hsp⟩:=HC.out
      have hend:Ye s a b (csOf s a).length=if xa.t=true then [(a,some (b,xa.cs.length))] else []:=by
       unfold Ye
       rw[HX.out.1,hcs]
       simp
      rw[hend] at hh1
      cases hxt:xa.t with
      | false =>
        rw[hxt] at hh1
        simp only[Bool.false_eq_true,if_false] at hh1
        obtain⟨e1,e2⟩:s1=s∧f1=[]:=by cases hh1;exact⟨rfl,rfl⟩
        subst e1 e2
        go_wp2
        go_meet
        case rel=>rw[Xa];exact ST0.out.below (Zj (Below.refl _ _) _)
      | true =>
        rw[hxt] at hh1
        simp only[if_true] at hh1
        obtain⟨f,rfl,hcg⟩:∃ f,f1=[f]∧Chg s (a,some (b,xa.cs.length)) s1 f:=by
         cases hh1 with
         | cons c0 c1=>cases c1;exact⟨_,rfl,c0⟩
        have hbx:b≤xa.cs.length:=by have:=HX.out.2.2.1;unfold ZI at this;rw[hxt] at this;simpa using this
        have CX:=hid (fun X (hB:Below W.heap.size W X)=>Zb4 (c:=(xa.cs.length:Int) - (b:Int)) (ST0.out.below hB) hcg HD.out.2.2.2.1 (fun z hz=>(hsp z hz).ok) h6 (by omega))
        clear hh1 hh2 hh3 hsp hend
        go_wp2
        refine ZeU (by rfl) (by kernel_rfl) (by kernel_rfl) ?_
        simp only[List.dropLast]
        repeat (quiet_step (fail))
        refine wpQuiet_nil ?_
        intro _ hw'
        obtain⟨nq,hw''⟩:=hw'
        subst hw''
        go_wp2_with (
         go_at_call 125
         refine(CX.out _ (Zj (Below.refl _ _) _)).mono ?_
         rintro e w30 ⟨rfl,h30⟩
         have H30:=hid h30
         clear h30)
        go_meet
        case rel=>rw[Jg,Xa];exact H30.out
     case rest =>
      obtain⟨hh1,hh2,hh3,hsp⟩:=HC.out
      have hwf1:=hh1.wf HD.out.2.2.2.1
      have hsp1:∀ z∈rs.map (mvSp (Zq f1)),SpIs s1 z:=by
       intro z hz
       obtain⟨z0,hz0,rfl⟩:=List.mem_map.1 hz
       exact hh1.lives J6 HD.out.2.2.2.1 (hsp z0 hz0)
      rw[HLL.out.1,HLL.out.2,HLV.out] at hh2
      have HC2:=hid (And.intro hh2 (And.intro hwf1 (And.intro hsp1 hh3)))
      have hLV40:LV.length≤40:=by rw[← HLV.out];exact Nat.le_trans (JZ _ _ _ _ _ _ _) hL40
      have HCUT:=hid hcut
      have HTX:Hid (∀ n:Nat,(s2[n]?.map (·.t))=(s[n]?.map (·.t))):=fun n=>(hh2.text n).trans (hh1.text n)
      clear hh1 hh2 hh3 hsp hwf1 hsp1 hcut qn q0 q1 g0 g1 HC
      go_wp2
      go_loopw [17] (fun t17 wr=>∃ (k:Nat) (sk:List Nd) (fa fb:List Mvf),k≤LV.length∧t17=.int .i64 (k:Int)∧RSt (fun b=>F b∧b<w.heap.size) W bd wr sk ((rs.map (mvSp (Zq f1))).map (mvSp (Zq fa)))∧Chgs sk ((LV.drop k).map (fun i=>((i,none):Dact))) s2 fb∧f2=fa++fb∧WF sk∧∀ z∈(rs.map (mvSp (Zq f1))).map (mvSp (Zq fa)),SpIs sk z) (fun t _=>Yj LV.length t)
      case atStart =>
       obtain⟨h2,hw1,hs1,_⟩:=HC2.out
       exact⟨0,s1,[],f2,Nat.zero_le _,rfl,by rw[Xa];exact HCUT.out,h2,rfl,hw1,by rw[Xa];exact hs1⟩
      case round =>
       obtain⟨k,sk,fa,fb,hk,rfl,hst,hcs,hf2,hwk,hspk⟩:=hrel
       obtain⟨Fk,hRD,hsub,hkeep⟩:=hst
       obtain⟨kS,kF,kR,kP,kL⟩:=KPW.out wr hkeep
       rw[HLV.out] at kL
       by_cases hlt:k<LV.length
       · have hltI:(k:Int)<(LV.length:Int):=by omega
         obtain⟨n,hn⟩:∃ n,LV[k]?=some n:=⟨_,List.getElem?_eq_getElem hlt⟩
         have hdr:LV.drop k=n::LV.drop (k+1):=by
          obtain⟨h1,rfl⟩:=List.getElem?_eq_some_iff.1 hn
          exact List.drop_eq_getElem_cons h1
         rw[hdr,List.map_cons] at hcs
         obtain⟨sn,f,fc,rfl,hc1,hc2⟩:∃ sn f fc,fb=f::fc∧Chg sk (n,none) sn f∧Chgs sn ((LV.drop (k+1)).map (fun i=>((i,none):Dact))) s2 fc:=by
          cases hcs with
          | cons h1 h2=>exact⟨_,_,_,rfl,h1,h2⟩
         obtain⟨gL,hgL⟩:∃ gL,gl=some ⟨gL,0,none⟩:=by
          rcases ZB (Jh kL (Nat.zero_le _)) with ⟨_,hl0⟩|⟨g,c3,hgv⟩
          · omega
          · cases hgv;exact⟨_,rfl⟩
         subst hgL
         have cA:wr.cell? ⟨gL,k,none⟩=some (.int .i64 (n:Int)):=by
          rw[(Jh kL (Nat.zero_le _)).cellAt k (by omega)]
          simp[Zg,hn]
         have CM:=hid (rst_rem ⟨Fk,hRD,hsub,hkeep⟩ hc1 hwk (fun z hz=>(hspk z hz).ok) (by simpa using h6))
         have HN:=hid (And.intro hc1 (And.intro hc2 (And.intro hwk (And.intro hspk hf2))))
         clear hRD hsub hkeep kS kF kR kP kL hcs hc1 hc2 hwk hspk hf2 hdr hn
         go_wp2_with (
          go_at_call 76
          refine CM.out.mono ?_
          rintro e w31 ⟨rfl,h31⟩
          have H31:=hid h31
          clear h31)
         go_roundw
         case rel =>
          obtain⟨hc1,hc2,hwk,hspk,hf2⟩:=HN.out
          have hmap:(rs.map (mvSp (Zq f1))).map (mvSp (Zq (fa++[f])))=((rs.map (mvSp (Zq f1))).map (mvSp (Zq fa))).map (mvSp f):=by rw[Zbo,Jg,Xa]
          refine⟨k+1,sn,fa++[f],fc,by omega,by simp,by rw[hmap];exact H31.out,hc2,by rw[hf2];simp,hc1.wf hwk,?_⟩
          rw[hmap]
          intro z hz
          obtain⟨z0,hz0,rfl⟩:=List.mem_map.1 hz
          exact hc1.lives J6 hwk (hspk z0 hz0)
         case measure =>
          show LV.length - ((k:Int)+1).toNat<LV.length - ((k:Int)).toNat
          omega
       · have hkl:k=LV.length:=by omega
         subst hkl
         rw[List.drop_length] at hcs
         obtain⟨e1,e2⟩:sk=s2∧fb=[]:=by cases hcs;exact⟨rfl,rfl⟩
         subst e1 e2
         rw[List.append_nil] at hf2
         subst hf2
         have hltI:¬ (LV.length:Int)<(LV.length:Int):=by omega
         have STk:=hid (show RSt (fun b=>F b∧b<w.heap.size) W bd wr sk ((rs.map (mvSp (Zq f1))).map (mvSp (Zq f2))) from ⟨Fk,hRD,hsub,hkeep⟩)
         obtain⟨bn2,cap2,rn2,rv2,hD2⟩:=hRD
         have htx:=HTX.out c
         rw[HX.out.2.1] at htx
         obtain⟨xc2,hxc2,htc⟩:∃ x2,sk[c]?=some x2∧x2.t=xc.t:=by
          cases hc2:sk[c]? with
          | none=>rw[hc2] at htx;cases htx
          | some x2=>rw[hc2] at htx;simp at htx;exact⟨x2,rfl,htx⟩
         have hcl:=(List.getElem?_eq_some_iff.1 hxc2).1
         have hclI:(c:Int)<(sk.length:Int):=by omega
         have hsk40:=hwk.cap
         have qn:=hD2.nodesCell
         obtain⟨rr3,_,_,q0,_,_,_⟩:=hD2.look hxc2
         have g2:=Za kS 2
         have g3:=Za kS 3
         have HSK:=hid (And.intro hwk (And.intro hspk hkeep))
         have HTC:=hid htc
         clear htc hD2 hsub hkeep kS kF kR kP kL hcs hwk hspk htx
         go_wp2
         go_quiet (fail)
         go_upto_if 189 with (fail)
         go_cut [] from 180 to 189 (fun wc=>RSt (fun b=>F b∧b<w.heap.size) W bd wc s3 (((rs.map (mvSp (Zq f1))).map (mvSp (Zq f2))).map (mvSp (Zq f3))))
         case first =>
          have hh3:=HC2.out.2.2.2
          have hend:Ye s c 0 d=if xc2.t=true then [(c,some (0,d))] else []:=by
           unfold Ye
           rw[HX.out.2.1,Option.map_some,← HTC.out]
           simp
          rw[hend] at hh3
          cases hxt:xc2.t with
          | false =>
            rw[hxt] at hh3
            simp only[Bool.false_eq_true,if_false] at hh3
            obtain⟨e1,e2⟩:s3=sk∧f3=[]:=by cases hh3;exact⟨rfl,rfl⟩
            subst e1 e2
            go_wp2
            go_meet
            case rel=>rw[Xa];exact STk.out.below (Zj (Below.refl _ _) _)
          | true =>
            rw[hxt] at hh3
            simp only[if_true] at hh3
            obtain⟨f,rfl,hcg⟩:∃ f,f3=[f]∧Chg sk (c,some (0,d)) s3 f:=by
             cases hh3 with
             | cons c0 c1=>cases c1;exact⟨_,rfl,c0⟩
            have CX:=hid (fun X (hB:Below wr.heap.size wr X)=>Zb4 (c:=(d:Int)) (STk.out.below hB) hcg HSK.out.1 (fun z hz=>(HSK.out.2.1 z hz).ok) (by simpa using h6) (by omega))
            clear hh3 hend
            go_wp2_with (
             go_at_call 125
             refine(CX.out _ (Zj (Below.refl _ _) _)).mono ?_
             rintro e w32 ⟨rfl,h32⟩
             have H32:=hid h32
             clear h32)
            go_meet
            case rel=>rw[Jg,Xa];exact H32.out
         case rest =>
          obtain⟨F3,⟨bn3,cap3,rn3,rv3,hD3⟩,hsub3,hk3⟩:=hcut
          obtain⟨kS,kF,kR,kP,_⟩:=KPW.out wc hk3
          obtain⟨g3,rc3,hrv3⟩:∃ g3 rc3,rv3=.slice (some ⟨g3,0,none⟩) rs.length rc3:=by
           rcases ZB hD3.ranges with ⟨_,h0⟩|⟨g,c,h⟩
           · rw[List.length_map,List.length_map,List.length_map] at h0;omega
           · simp at h;exact⟨g,c,h⟩
          have hz3:∃ z3,(((rs.map (mvSp (Zq f1))).map (mvSp (Zq f2))).map (mvSp (Zq f3)))[r]?=some z3:=⟨_,List.getElem?_eq_getElem (by simpa using hr)⟩
          obtain⟨z3,hz3⟩:=hz3
          have k1:=hD3.rangesCell
          rw[hrv3] at k1
          obtain⟨q0,q1,q2,q3,qf⟩:=hD3.spanAt hz3 hrv3
          have qf0:=qf (r*4)
          have qf1:=qf (r*4+1)
          have qf2:=qf (r*4+2)
          have qf3:=qf (r*4+3)
          have p0:=Za kP 0
          have p1:=Za kP 1
          have h3b:=(hD3.apart g3 (by rw[hrv3];rfl))
          have hg3:¬ (w.heap.size≤g3∧g3<W.heap.size):=by
           rintro⟨e1,e2⟩
           rcases hsub3 g3 h3b.1 with e|e
           · have:=e.2;omega
           · omega
          have hpw:=Zc (KPW.out W (Zb.refl _ _)).2.2.2.1
          have hfw:=Zc (KPW.out W (Zb.refl _ _)).2.1
          have ng1:¬ g3=w20.heap.size:=by omega
          have ng2:¬ g3=w1.heap.size:=by omega
          have ng3:¬ g3=w.heap.size:=by omega
          have hne3:¬ w1.heap.size=w.heap.size:=by omega
          have cf0:=Za kF 0
          have cf1:=Za kF 1
          have za0:=Za kR 0
          have za1:=Za kR 1
          have fa0:=Zd kR 0
          have fa1:=Zd kR 1
          have H3:=hid (And.intro hD3 (And.intro hsub3 (And.intro hk3 (And.intro hrv3 hz3))))
          clear hD3 hsub3 hk3 hrv3 hz3 qf kS kF kR kP h3b
          go_wp2
          refine ZeU (by rfl) (by kernel_rfl) (by kernel_rfl) ?_
          simp only[List.dropLast]
          repeat (quiet_step (fail))
          refine wpQuiet_nil ?_
          intro _ hw'
          obtain⟨nq,hw''⟩:=hw'
          subst hw''
          go_wp2
          obtain⟨hD3,hsub3,hk3,hrv3,hz3⟩:=H3.out
          have st:=RSt.setAll (F0:=fun b=>F b∧b<w.heap.size) (W:=W) (hD3.drewN nq) hsub3 (hk3.trans (Zb.of_below (Zj (Below.refl _ _) _))) (g:=g3) (c:=rc3) (by rw[hrv3];simp) hz3 jp jq jp jq
          obtain⟨X4,hX4⟩:∃ X4,((((wc.drewN nq).setCell ⟨g3,r*4,none⟩ (.int .i64 jp)).setCell ⟨g3,r*4+1,none⟩ (.int .i64 jq)).setCell ⟨g3,r*4+2,none⟩ (.int .i64 jp)).setCell ⟨g3,r*4+3,none⟩ (.int .i64 jq)=X4:=⟨_,rfl⟩
          rw[hX4] at st ⊢
          have hq3:Zb (fun b=>F b∧b<w.heap.size) W X4:=by obtain⟨_,_,_,hq3⟩:=st;exact hq3
          have kR4:=(KPW.out X4 hq3).2.2.1
          have a1:=heap_setCell_same X4 _ 0 _ _ (.int .i64 0) kR4
          have a2:=heap_setCell_same _ _ 1 _ _ (.int .i64 0) a1
          have b0:((X4.setCell ⟨w.heap.size,0,none⟩ (.int .i64 0)).setCell ⟨w.heap.size,1,none⟩ (.int .i64 0)).cell? ⟨w.heap.size,0,none⟩=some (.int .i64 0):=Za a2 0
          have b1:((X4.setCell ⟨w.heap.size,0,none⟩ (.int .i64 0)).setCell ⟨w.heap.size,1,none⟩ (.int .i64 0)).cell? ⟨w.heap.size,1,none⟩=some (.int .i64 0):=Za a2 1
          refine bodyPost_ret (v:=Zi 0 0) (by simp[results,Tryz.results86,go_sem,b0,b1]) rfl ?_
          refine⟨rfl,?_⟩
          rw[Zbo,Zbo]
          exact st.done2 HBx.out (Nat.le_refl _) hWsl (((Zb.refl (fun b=>b=w.heap.size) X4).setCell (p:=⟨w.heap.size,0,none⟩) (.inl rfl) _).setCell (p:=⟨w.heap.size,1,none⟩) (.inl rfl) _)
end
end
end Go.Proofs.YtabogkonklplcaaGreatDoor
