import Derived.Test.YtabogkonklplcaaGreatDoorJ40
import Derived.Test.YtabogkonklplcaaGreatDoorJ15
import Derived.Test.YtabogkonklplcaaGreatDoorJ13
import Derived.Test.YtabogkonklplcaaGreatDoorJ23
import Derived.Test.YtabogkonklplcaaGreatDoorJ12
namespace Go.Proofs.YtabogkonklplcaaGreatDoor
set_option linter.unusedSimpArgs false
set_option linter.unusedVariables false
set_option maxRecDepth 20000
set_option maxHeartbeats 8000000
section
open Go.RowKit
section
variable {w:World} {F:Nat→Prop} {bd bn cap:Nat} {rn:List RN} {rv:Value} {s:List Nd} {rs:List Sp}
theorem Zhw (wf:WF s) (hD:Zf w F bd bn cap rn rv s rs) (L:List (Nat × Nat)) (v:Value) (a b c d n:Nat) (hn:n < s.length) (hr:w.ownsRow 0 37 2 v L.length (plV L)) (hbig:L.length < lots) :
 Calls Tryz.prog 134 #[.pointer (some ⟨bd,0,none⟩),v,.int .i64 (n:Int),.int .i64 (wh L (a,b)),.int .i64 (wh L (c,d))] w fun e w'=>e=.returned (.bool (insB s L a b c d n))∧Below w.heap.size w w':=by
 have hcap:=wf.cap
 obtain⟨x,hx⟩:∃ x,s[n]?=some x:=⟨_,List.getElem?_eq_getElem hn⟩
 have n0:=hD.nodesCell
 have hlt:=hD.lt
 obtain⟨rr,hrr,ho,c0,c1,c2,c3⟩:=hD.look hx
 have hnI:(n:Int)<(s.length:Int):=by omega
 by_cases hp:0≤x.p
 · obtain⟨j,m,y,hj,hy,hm,hno,hyl⟩:=wf.place hx hp
   have CI:=hid (JW hD n j m x y hx hj hy (by unfold lots;omega) hm hno)
   have CW1:=hid (fun W (hb:Below w.heap.size w W)=>XD L v j m w W hr hbig hb)
   have CW2:=hid (fun W (hb:Below w.heap.size w W)=>XD L v j (m+1) w W hr hbig hb)
   rw[hj] at c3
   have hml:=(List.getElem?_eq_some_iff.1 hm).1
   have hm64:m<1000:=by omega
   have hneg:decide ((j:Int)<0)=false:=decide_eq_false (by omega)
   rw[ZbN hx hj hy hm hno]
   unfold cov
   generalize wh L (a,b)=q1
   generalize wh L (c,d)=q4
   obtain⟨q2,hq2⟩:∃ q,wh L (j,m)=q:=⟨_,rfl⟩
   obtain⟨q3,hq3⟩:∃ q,wh L (j,m+1)=q:=⟨_,rfl⟩
   rw[hq2,hq3]
   have HQ2:=hid hq2
   have HQ3:=hid hq3
   clear hD c0 c1 c2 hrr ho hx hy hm hno hq2 hq3 hj hr
   by_cases h12:q1≤q2
   · have hge:decide (q2 ≥ q1)=true:=decide_eq_true h12
     rw[decide_eq_true h12,Bool.true_and]
     go_enter Tryz.func134,Tryz.ntmps134
     go_wp2_with (first
      | (go_at_call 121;refine CI.out.mono ?_;rintro e w1 ⟨rfl,hd1⟩
         have HB1:=hid (show Below w.heap.size w w1 from by obtain⟨k,rfl⟩:=hd1;exact Zj (Below.refl _ _) _)
         clear hd1)
      | (go_at_call 133;refine(CW2.out _ HB2.out).mono ?_;rintro e w3 ⟨z3,rfl,hz3,hb3⟩
         obtain rfl:z3=q3:=hz3.wh.trans HQ3.out
         have HB3:=hid hb3
         clear hb3 hz3)
      | (go_at_call 133;refine(CW1.out _ HB1.out).mono ?_;rintro e w2 ⟨z2,rfl,hz2,hb2⟩
         obtain rfl:z2=q2:=hz2.wh.trans HQ2.out
         have HB2:=hid hb2
         clear hb2 hz2))
     go_ret
     exact⟨rfl,HB3.out⟩
   · have hge:decide (q2 ≥ q1)=false:=decide_eq_false h12
     rw[decide_eq_false h12,Bool.false_and]
     go_enter Tryz.func134,Tryz.ntmps134
     go_wp2_with (first
      | (go_at_call 121;refine CI.out.mono ?_;rintro e w1 ⟨rfl,hd1⟩
         have HB1:=hid (show Below w.heap.size w w1 from by obtain⟨k,rfl⟩:=hd1;exact Zj (Below.refl _ _) _)
         clear hd1)
      | (go_at_call 133;refine(CW1.out _ HB1.out).mono ?_;rintro e w2 ⟨z2,rfl,hz2,hb2⟩
         obtain rfl:z2=q2:=hz2.wh.trans HQ2.out
         have HB2:=hid hb2
         clear hb2 hz2))
     go_ret
     exact⟨rfl,HB2.out⟩
 · rw[Zdj hx (by omega)]
   have hneg:decide (x.p<0)=true:=decide_eq_true (by omega)
   clear hD c0 c1 c2 hrr ho hx hr
   go_enter Tryz.func134,Tryz.ntmps134
   go_wp2
   go_ret
   exact⟨rfl,Below.refl _ _⟩
theorem Zhx (wf:WF s) {h:Nat→Nat} {B:Nat} (u:Up s h B) (hD:Zf w F bd bn cap rn rv s rs) (a b c d:Nat) (ha:a < s.length) (hc:c < s.length) (hca:c∈allF s (B+1) a) :
 Calls Tryz.prog 135 #[.pointer (some ⟨bd,0,none⟩),spV ⟨a,b,c,d⟩] w fun e w'=>e=.returned (.agg #[.int .i64 (a:Int),.int .i64 (b:Int)])∧Below w.heap.size w w':=by
 have CW:=hid (fun W (hB:Below w.heap.size w W)=>XE (hD.below hB) u (c:Int) (a:Int) (by omega) (Zay wf hc hca))
 have HB0:Hid (Below w.heap.size w ((w.alloc (.cells #[.int .i64 (a:Int),.int .i64 (b:Int),.int .i64 (c:Int),.int .i64 (d:Int)] 79)).alloc (.cells #[.int .i64 0,.int .i64 0] 37))):=((Below.refl _ w).alloc (Nat.le_refl _) _).alloc (by simp) _
 clear hD wf u hca
 go_enter Tryz.func135,Tryz.ntmps135
 go_wp2_with (
  go_at_call 116
  refine(CW.out _ HB0.out).mono ?_
  rintro e w1 ⟨rfl,hw1⟩
  replace hw1:=hw1.symm
  subst hw1)
 refine bodyPost_ret (v:=.agg #[.int .i64 (a:Int),.int .i64 (b:Int)]) (by simp[results,Tryz.results135,go_sem, *]) rfl ?_
 refine⟨rfl,?_⟩
 go_grown
theorem Zhy (wf:WF s) {h:Nat→Nat} {B:Nat} (u:Up s h B) (hD:Zf w F bd bn cap rn rv s rs) (a b c d:Nat) (ha:a < s.length) (hc:c < s.length) (hca:c∉allF s (B+1) a) {q n p m:Nat} {x y:Nd} (hJ:Zac s (B+1) a c q n p m x y) :
 Calls Tryz.prog 135 #[.pointer (some ⟨bd,0,none⟩),spV ⟨a,b,c,d⟩] w fun e w'=>e=.returned (.agg #[.int .i64 (p:Int),.int .i64 ((m:Int)+1)])∧Below w.heap.size w w':=by
 have hcap:=wf.cap
 have CW0:=hid (fun W (hB:Below w.heap.size w W)=>XE (hD.below hB) u (c:Int) (a:Int) (by omega) (JV wf u hc (by have:=u.le a;omega) hca))
 have CN:=hid (fun (k:Nat) (hk:c∉allF s (B+1) k) W (hB:Below w.heap.size w W)=>XE (hD.below hB) u (c:Int) (k:Int) (by omega) (JV wf u hc (by have:=u.le k;omega) hk))
 have CY:=hid (fun W (hB:Below w.heap.size w W)=>XE (hD.below hB) u (c:Int) (p:Int) (by omega) (Zay wf hc hJ.hold))
 have hyl:=XT wf hJ.hy
 have hml:=(List.getElem?_eq_some_iff.1 hJ.hm).1
 have CI:=hid (fun W (hB:Below w.heap.size w W)=>JW (hD.below hB) n p m x y hJ.hx hJ.hp hJ.hy (by unfold lots;omega) hJ.hm hJ.hno)
 have HB0:Hid (Below w.heap.size w ((w.alloc (.cells #[.int .i64 (a:Int),.int .i64 (b:Int),.int .i64 (c:Int),.int .i64 (d:Int)] 79)).alloc (.cells #[.int .i64 0,.int .i64 0] 37))):=((Below.refl _ w).alloc (Nat.le_refl _) _).alloc (by simp) _
 have HD:=hid hD
 have HJ:=hid hJ
 have HU:=hid u
 clear hD hca hJ u wf
 go_enter Tryz.func135,Tryz.ntmps135
 go_wp2_with (
  go_at_call 116
  refine(CW0.out _ HB0.out).mono ?_
  clear CW0
  rintro e w1 ⟨rfl,hw1⟩
  replace hw1:=hw1.symm
  subst hw1)
 obtain⟨W1,hW1⟩:∃ W1,(w.alloc (.cells #[.int .i64 (a:Int),.int .i64 (b:Int),.int .i64 (c:Int),.int .i64 (d:Int)] 79)).alloc (.cells #[.int .i64 0,.int .i64 0] 37)=W1:=⟨_,rfl⟩
 have hs1:W1.heap[w.heap.size]?=some (.cells #[.int .i64 (a:Int),.int .i64 (b:Int),.int .i64 (c:Int),.int .i64 (d:Int)] 79 (0,0)):=by
  rw[← hW1,Below.heap_alloc _ _ _ (by simp)];exact heap_alloc_new w _
 have hr1:W1.heap[w.heap.size+1]?=some (.cells #[.int .i64 0,.int .i64 0] 37 (0,0)):=by
  have:=heap_alloc_new (w.alloc (.cells #[.int .i64 (a:Int),.int .i64 (b:Int),.int .i64 (c:Int),.int .i64 (d:Int)] 79)) (.cells #[.int .i64 0,.int .i64 0] 37)
  rw[World.size_alloc] at this
  rw[← hW1];exact this
 rw[hW1] at HB0 ⊢
 have c2:=Za hs1 2
 have r0:=Za hr1 0
 have r1:=Za hr1 1
 have rf0:=Zd hr1 0
 have rf1:=Zd hr1 1
 have hrl:=Zc hr1
 have hD1:=HD.out.below HB0.out
 have n0:=hD1.nodesCell
 have hnl:=hD1.lt
 have HD1:=hid hD1
 clear hW1 hs1 hr1 hD1
 go_loopw [6] (fun t wr=>wr=W1∧∃ (r k:Nat),r≤q∧climb s r a=(k:Int)∧k<s.length∧t=.int .i64 (k:Int)) (fun t _=>Xg h B (intOf t))
 case atStart=>exact⟨rfl,0,a,Nat.zero_le _,rfl,ha,rfl⟩
 case round =>
  obtain⟨rfl,r,k,hr,hk,hkl,rfl⟩:=hrel
  obtain⟨z,hz⟩:∃ z,s[k]?=some z:=⟨_,List.getElem?_eq_getElem hkl⟩
  obtain⟨rr,hrr,ho,e0,e1,e2,e3⟩:=HD1.out.look hz
  have hkI:(k:Int)<(s.length:Int):=by omega
  by_cases hrq:r<q
  · obtain⟨k2,hk2,hk2l,hk2n⟩:=HJ.out.up (r+1) hrq
    have hzp:z.p=(k2:Int):=by
     have:=Ya hk
     rw[hk2] at this
     simp only[Zw,hz] at this
     exact this.symm
    rw[hzp] at e3
    have hms:=Jq HU.out hz
    rw[hzp] at hms
    have H:=hid (And.intro hk2 hms)
    have C1:=hid (CN.out k2 hk2n _ HB0.out)
    clear e0 e1 e2 hrr ho hz hzp hk hk2 hk2n hms
    go_wp2_with (
     go_at_call 116
     refine C1.out.mono ?_
     clear C1
     rintro e w2 ⟨rfl,hw2⟩
     replace hw2:=hw2.symm
     subst hw2)
    go_roundw
    case rel=>exact⟨trivial,r+1,k2,by omega,H.out.1,hk2l,rfl⟩
    case measure=>exact H.out.2
  · obtain rfl:r=q:=by omega
    have e4:=HJ.out.last
    rw[hk] at e4
    obtain rfl:k=n:=by omega
    have hzx:z=x:=by have:=HJ.out.hx;rw[hz] at this;cases this;rfl
    subst hzx
    have hzp:=HJ.out.hp
    rw[hzp] at e3
    have C1:=hid (CY.out _ HB0.out)
    have C2:=hid (CI.out _ HB0.out)
    clear e0 e1 e2 hrr ho hz hzp hk e4
    go_wp2_with (first
     | (go_at_call 116
        refine C1.out.mono ?_
        clear C1
        rintro e w2 ⟨rfl,hw2⟩
        replace hw2:=hw2.symm
        subst hw2)
     | (go_at_call 121
        refine C2.out.mono ?_
        rintro e w3 ⟨rfl,k3,rfl⟩))
    refine bodyPost_ret (v:=.agg #[.int .i64 (p:Int),.int .i64 ((m:Int)+1)]) (by simp[results,Tryz.results135,go_sem, *]) rfl ?_
    refine⟨rfl,?_⟩
    have hB:=Zj HB0.out k3
    have hz:=hB.size
    go_grown
end
end
end Go.Proofs.YtabogkonklplcaaGreatDoor
