import Derived.Test.YtabogkonklplcaaGreatDoorH36
import Derived.Test.YtabogkonklplcaaGreatDoorH35
import Derived.Test.YtabogkonklplcaaGreatDoorH40
import Derived.Test.YtabogkonklplcaaGreatDoorH24
import Derived.Test.YtabogkonklplcaaGreatDoorH39
import Derived.Test.YtabogkonklplcaaGreatDoorH43
import Derived.Test.YtabogkonklplcaaGreatDoorH10
import Derived.Test.YtabogkonklplcaaGreatDoorH21
import Derived.Test.YtabogkonklplcaaGreatDoorH17
import Derived.Test.YtabogkonklplcaaGreatDoorH23
import Derived.Test.YtabogkonklplcaaGreatDoorH27
import Derived.Test.YtabogkonklplcaaGreatDoorH38
import Derived.Test.YtabogkonklplcaaGreatDoorH15
import Derived.Test.YtabogkonklplcaaGreatDoorH16
import Derived.Test.YtabogkonklplcaaGreatDoorH33
import Derived.Stop.RegionWithIn
import Derived.Deep.RegionHeld3
import Derived.Test.YtabogkonklplcaaGreatDoorH44
import Derived.Test.YtabogkonklplcaaGreatDoorH26
import Derived.BigQuiet
import Derived.Test.YtabogkonklplcaaGreatDoorH11
namespace Go.Proofs.YtabogkonklplcaaGreatDoor
set_option linter.unusedSimpArgs false
set_option linter.unusedVariables false
set_option maxRecDepth 20000
set_option maxHeartbeats 8000000
section
open Go.RowKit Go.Lib
theorem ZiY {V:List Nd→Sp→Prop} (hV:Yq V) (s:List Nd) (wf:WF s) (rs:List Sp) (h6:rs.length≤6) (hrs:∀ z∈rs,V s z):∃ n:Int,Ans (Z7 V) GG ⟨s,rs⟩ 52 73 [] (fun v=>.tuple #[.int .i64 n,v]) (fun v=>.tuple #[.int .i64 n,v]):=by
 by_cases h40:s.length<40
 · refine⟨s.length,0,0,⟨s++[Z5],rs⟩,⟨Jo wf h40 Z5 rfl rfl (fun _=>rfl) ⟨by decide,fun c hc=>by cases hc⟩,h6,fun z hz=>hV.push Z5 wf (Jo wf h40 Z5 rfl rfl (fun _=>rfl) ⟨by decide,fun c hc=>by cases hc⟩) rfl (hrs z hz)⟩,?_,?_⟩
   · intro w F bx hg hP
     exact ZdC hg hP (X7 0) (fun F' bf h=>Ziu h h40)
   · rintro w F bd ⟨bn,cap,rn,rv,hD⟩
     exact(Zhq hD h40).mono fun e w' h=>h
 · refine⟨0,0,7,⟨s,rs⟩,⟨wf,h6,hrs⟩,?_,?_⟩
   · intro w F bx hg hP
     exact ZdC hg hP (Yi 0 7 (by decide)) (fun F' bf h=>Zit h (by omega))
   · intro w F bd hR
     have hR':=hR
     obtain⟨bn,cap,rn,rv,hD⟩:=hR
     exact(Zhp (s:=s) hD (by omega)).mono fun e w' ⟨h1,h2⟩=>⟨h1,Zb.of_below h2,hR'.afterR h2⟩
theorem Zi9 {V:List Nd→Sp→Prop} (hV:Yq V) (s:List Nd) (wf:WF s) (rs:List Sp) (h6:rs.length≤6) (hrs:∀ z∈rs,V s z) (t:ByteArray) (ht:t.size < lots):∃ n:Int,Ans (Z7 V) GG ⟨s,rs⟩ 53 74 [.string t] (fun v=>.tuple #[.int .i64 n,v]) (fun v=>.tuple #[.int .i64 n,v]):=by
 by_cases hk:∃ l,Takes t l
 · obtain⟨l,hl⟩:=hk
   by_cases h40:s.length<40
   · refine⟨s.length,0,0,⟨s++[⟨true,l,[],-1⟩],rs⟩,⟨Jo wf h40 _ rfl rfl (fun h=>by cases h) ⟨hl.2,JG t.size t l (Nat.le_refl _) hl.1⟩,h6,fun z hz=>hV.push _ wf (Jo wf h40 _ rfl rfl (fun h=>by cases h) ⟨hl.2,JG t.size t l (Nat.le_refl _) hl.1⟩) rfl (hrs z hz)⟩,?_,?_⟩
     · intro w F bx hg hP
       exact ZdM hg hP t (X7 0) (fun F' bf h=>ZiP h hg.2 t ht l hl h40)
     · rintro w F bd ⟨bn,cap,rn,rv,hD⟩
       exact(ZhT hD t ht l hl.1 hl.2 h40).mono fun e w' h=>h
   · refine⟨0,0,7,⟨s,rs⟩,⟨wf,h6,hrs⟩,?_,?_⟩
     · intro w F bx hg hP
       exact ZdM hg hP t (Yi 0 7 (by decide)) (fun F' bf h=>ZiO h hg.2 t ht l hl (by omega))
     · intro w F bd hR
       have hR':=hR
       obtain⟨bn,cap,rn,rv,hD⟩:=hR
       exact(ZhR (s:=s) hD t ht l hl.1 hl.2 (by omega)).mono fun e w' ⟨h1,h2⟩=>⟨h1,Zb.of_below h2,hR'.afterR h2⟩
 · refine⟨0,0,6,⟨s,rs⟩,⟨wf,h6,hrs⟩,?_,?_⟩
   · intro w F bx hg hP
     exact ZgI hg hP t (fun F' bf h=>ttext_no h hg.2 t ht (fun l hl=>hk ⟨l,hl⟩))
   · intro w F bd hR
     have hR':=hR
     obtain⟨bn,cap,rn,rv,hD⟩:=hR
     cases hc:Zr t with
     | none=>exact(rtext_no hD t ht hc).mono fun e w' ⟨h1,h2⟩=>⟨h1,Zb.of_below h2,hR'.afterR h2⟩
     | some l =>
       have h30:30<l.length:=by
        rcases Nat.lt_or_ge 30 l.length with h|h
        · exact h
        · exact absurd ⟨l,hc,h⟩ hk
       exact(ZhS hD t ht l hc h30).mono fun e w' ⟨h1,h2⟩=>⟨h1,Zb.of_below h2,hR'.afterR h2⟩
theorem Zi5 {V:List Nd→Sp→Prop} (hV:Yq V) (s:List Nd) (wf:WF s) (rs:List Sp) (h6:rs.length≤6) (hrs:∀ z∈rs,V s z) (A:Int):∃ b:ByteArray,Ans (Z7 V) GG ⟨s,rs⟩ 55 77 [.int .i64 A] (fun v=>.tuple #[.string b,v]) (fun v=>.tuple #[.string b,v]):=by
 cases hA:isB s A with
 | false =>
   refine⟨⟨#[]⟩,A,1,⟨s,rs⟩,⟨wf,h6,hrs⟩,?_,?_⟩
   · intro w F bx hg hP
     exact ZdI hg hP A (Yi A 1 (by decide)) (fun F' bf h=>tshow_no h A hA)
   · intro w F bd hR
     have hR':=hR
     obtain⟨bn,cap,rn,rv,hD⟩:=hR
     exact(rshow_no hD A hA).mono fun e w' ⟨h1,h2⟩=>⟨h1,Zb.of_below h2,hR'.afterR h2⟩
 | true =>
   obtain⟨h1,h2⟩:=Y2 hA
   obtain⟨i,rfl⟩:∃ i:Nat,A=(i:Int):=⟨A.toNat,by omega⟩
   have hi:i<s.length:=by omega
   obtain⟨h,H,u⟩:=wf.up
   have hl:=Zb7 wf u (k:=h i+1) (n:=i) (by omega)
   refine⟨Yd s (h i+1) i,0,0,⟨s,rs⟩,⟨wf,h6,hrs⟩,?_,?_⟩
   · intro w F bx hg hP
     exact ZdI hg hP i (X7 0) (fun F' bf h=>ZiJ wf h i hi _ hl)
   · intro w F bd hR
     have hR':=hR
     obtain⟨bn,cap,rn,rv,hD⟩:=hR
     exact(ZhN wf hD i hi _ hl).mono fun e w' ⟨h1,h2⟩=>⟨h1,Zb.of_below h2,hR'.afterR h2⟩
end
section
open Go.RowKit
section
variable {w:World} {F:Nat→Prop} {bd bn cap:Nat} {rn:List RN} {rv:Value} {s:List Nd} {rs:List Sp}
theorem ZhL (hD:Zf w F bd bn cap rn rv s rs) (n k:Nat) (c:Int) (x:Nd) (hx:s[n]?=some x) (ht:x.t=true) (hlen:x.cs.length≤30) (hk:k≤x.cs.length) (hc:0≤c) (t:ByteArray) (hts:t.size < lots) (l:List ByteArray) (h:Zr t=some l) (cm:Nat) (hcm0:cm=(min c ((x.cs.length:Int) - k)).toNat) (hl:x.cs.length - cm+l.length≤30) (hbig:l.length < lots) (hsm:Small rs) (h6:rs.length≤6) :
 Calls Tryz.prog 78 #[.pointer (some ⟨bd,0,none⟩),.int .i64 n,.int .i64 k,.int .i64 c,.string t] w fun e w'=>e=.returned (Zi 0 0)∧Zb F w w'∧RDoc w' (fun b=>F b∨w.heap.size≤b) bd (s.set n { x with cs:=x.cs.take k++l++x.cs.drop (k+cm) }) (rs.map (mvSp (Zl n k cm l.length))):=by
 have hn:n<s.length:=(List.getElem?_eq_some_iff.1 hx).1
 have CF:=hid (XX (hD.below (Z1 w)) n k x hx ht hk)
 have h1b:((0:Int) == 0)=true:=rfl
 have h0:=hD.nodesCell
 have hlt:=hD.lt
 obtain⟨r,hr,ho,-,hc1,-,-⟩:=hD.look hx
 obtain⟨ca,cc,hcv⟩:=Zo ho.chars
 rw[hcv] at hc1
 have hcb:decide (c<0)=false:=decide_eq_false (by omega)
 have hkI:(k:Int)≤(x.cs.length:Int):=by omega
 have hlI:(x.cs.length:Int)≤30:=by omega
 have HTB:=hid (Z1 w)
 have HT:=hid hts
 have HC:=hid h
 have HBIG:=hid hbig
 have HN:=hid hD.narrow
 have HSM:=hid hsm
 clear hsm
 have HX:=hid hx
 unfold lots at hbig
 clear hr ho hcv hx ht
 have key:∀ cm:Nat,(c≤(x.cs.length:Int) - k∧(cm:Int)=c∨(x.cs.length:Int) - k<c∧(cm:Int)=(x.cs.length:Int) - k)→cm=(min c ((x.cs.length:Int) - k)).toNat:=fun cm h=>by omega
 by_cases hcm:(x.cs.length:Int) - k<c
 · have hcd:decide ((x.cs.length:Int) - k<c)=true:=decide_eq_true hcm
   have hcmI:(cm:Int)=(x.cs.length:Int) - k:=by omega
   have hLd:decide ((30:Int)<(x.cs.length:Int) - ((x.cs.length:Int) - k)+l.length)=false:=decide_eq_false (by omega)
   clear hD
   go_enter Tryz.func78,Tryz.ntmps78
   go_wp2_with (first
   | (go_at_call 123;refine CF.out.mono ?_;rintro e w1 ⟨rfl,hb1⟩
      have hq2:w1.heap[w.heap.size]?=some (.cells #[.int .i64 0,.int .i64 0] 32 (0,0)):=by
       rw[hb1.block _ (by simp)]
       exact heap_alloc_new w _
      have hs1:w.heap.size+1≤w1.heap.size:=by have:=hb1.size;simpa using this
      have HB1:=hid (HTB.out.trans (hb1.mono HTB.out.size))
      have HQ2:=hid hq2
      clear hb1 hq2)
   | (go_at_call 124;refine(Zy 0 0 _).mono ?_;rintro e w2 ⟨rfl,hb2⟩
      have hf2:w2.heap[w1.heap.size]?=some (.cells #[.int .i64 0,.int .i64 0] 32 (0,0)):=(hb2.block _ (by simp)).trans (heap_alloc_new w1 _)
      have hz2:w2.heap[w.heap.size]?=some (.cells #[.int .i64 0,.int .i64 0] 32 (0,0)) :=
       (hb2.block _ (by simp;omega)).trans ((((Below.refl _ w1).alloc (Nat.le_refl _) _).block _ (by omega)).trans HQ2.out)
      have cf0:w2.cell? ⟨w1.heap.size,0,none⟩=some (.int .i64 0):=Za hf2 0
      have cf1:w2.cell? ⟨w1.heap.size,1,none⟩=some (.int .i64 0):=Za hf2 1
      have cz0:w2.cell? ⟨w.heap.size,0,none⟩=some (.int .i64 0):=Za hz2 0
      have cz1:w2.cell? ⟨w.heap.size,1,none⟩=some (.int .i64 0):=Za hz2 1
      have fz0:=Zd hz2 0
      have fz1:=Zd hz2 1
      have HB2:=hid ((HB1.out.alloc HB1.out.size _).trans (hb2.mono (Nat.le_trans HB1.out.size (by simp))))
      have hs2:w.heap.size+1≤w2.heap.size:=by have:=hb2.size;simp at this;omega
      clear hb2 hf2
      have d0:=(HB2.out.cell (p:=⟨bd,0,none⟩) hlt.1).trans h0
      have dc1:=(HB2.out.cell (p:=⟨bn,n*4+1,none⟩) hlt.2).trans hc1
      have HZ:=hid hz2
      clear hz2 HQ2 HB1
      rw[h1b])
   | (go_at_call 115;refine(XJ t _ HT.out l HC.out).mono ?_;rintro e w3 ⟨v3,rfl,ho3,hb3⟩
      obtain⟨a3,c3,hv3⟩:=Zo ho3
      subst hv3
      have hz3:w3.heap[w.heap.size]?=some (.cells #[.int .i64 0,.int .i64 0] 32 (0,0)):=(hb3.block _ (Zc HZ.out)).trans HZ.out
      have cz0':w3.cell? ⟨w.heap.size,0,none⟩=some (.int .i64 0):=Za hz3 0
      have cz1':w3.cell? ⟨w.heap.size,1,none⟩=some (.int .i64 0):=Za hz3 1
      have fz0':=Zd hz3 0
      have fz1':=Zd hz3 1
      have hs3:w.heap.size+1≤w3.heap.size:=by have:=hb3.size;omega
      have HB3:=hid (HB2.out.trans (hb3.mono HB2.out.size))
      have HZ3:=hid hz3
      have CR:=hid (J5 (HN.out.below HB3.out) n k cm x HX.out hlen (by omega) _ l HBIG.out (Jf ho3) HSM.out h6 (by omega))
      clear hb3 hz3 ho3)
   | (go_at_call 125
      (first | rw[← hcmI]|skip)
      refine CR.out.mono ?_
      rintro e w4 ⟨rfl,hk4,hr4⟩
      have hz4:=(hk4.block _ (Zc HZ3.out) (fun e=>Nat.lt_irrefl _ e.2)).trans HZ3.out
      have cz0'':w4.cell? ⟨w.heap.size,0,none⟩=some (.int .i64 0):=Za hz4 0
      have cz1'':w4.cell? ⟨w.heap.size,1,none⟩=some (.int .i64 0):=Za hz4 1
      have fz0'':=Zd hz4 0
      have fz1'':=Zd hz4 1
      have hs4:=Zc hz4
      have HK4:=hid hk4
      have HR4:=hid hr4
      clear hk4 hr4 hz4))
   refine bodyPost_ret (v:=Zi 0 0) (by simp[results,Tryz.results78,go_sem,cz0'',cz1'',fz0'',fz1'',hs4]) rfl ?_
   have hk5:Zb (fun b=>F b∧b<w.heap.size) w w4:=(Zb.of_below HB3.out).trans (HK4.out.mono (fun b _ e=>.inl e))
   have hk6:Zb (fun b=>b=w.heap.size) w4 ((w4.setCell ⟨w.heap.size,0,none⟩ (.int .i64 0)).setCell ⟨w.heap.size,1,none⟩ (.int .i64 0)):=((Zb.refl (fun b=>b=w.heap.size) w4).setCell (p:=⟨w.heap.size,0,none⟩) (.inl rfl) _).setCell (p:=⟨w.heap.size,1,none⟩) (.inl rfl) _
   obtain⟨bn4,cap4,rn4,rv4,hD4⟩:=HR4.out.keeps hk6 (fun b e e2=>by rcases e with e|e <;> omega)
   have hk7:Zb F w w4:=hk5.mono (fun b _ e=>e.1)
   refine⟨rfl,(hk7.setCell (p:=⟨w.heap.size,0,none⟩) (.inr (Nat.le_refl _)) _).setCell (p:=⟨w.heap.size,1,none⟩) (.inr (Nat.le_refl _)) _,bn4,cap4,rn4,rv4,hD4.wider (fun b e=>?_)⟩
   rcases e with e|e
   · exact .inl e.1
   · exact .inr (by omega)
 · have hcd:decide ((x.cs.length:Int) - k<c)=false:=decide_eq_false hcm
   have hcmI:(cm:Int)=c:=by omega
   have hLd:decide ((30:Int)<(x.cs.length:Int) - c+l.length)=false:=decide_eq_false (by omega)
   have hcI:c≤30:=by omega
   clear hD
   go_enter Tryz.func78,Tryz.ntmps78
   go_wp2_with (first
   | (go_at_call 123;refine CF.out.mono ?_;rintro e w1 ⟨rfl,hb1⟩
      have hq2:w1.heap[w.heap.size]?=some (.cells #[.int .i64 0,.int .i64 0] 32 (0,0)):=by
       rw[hb1.block _ (by simp)]
       exact heap_alloc_new w _
      have hs1:w.heap.size+1≤w1.heap.size:=by have:=hb1.size;simpa using this
      have HB1:=hid (HTB.out.trans (hb1.mono HTB.out.size))
      have HQ2:=hid hq2
      clear hb1 hq2)
   | (go_at_call 124;refine(Zy 0 0 _).mono ?_;rintro e w2 ⟨rfl,hb2⟩
      have hf2:w2.heap[w1.heap.size]?=some (.cells #[.int .i64 0,.int .i64 0] 32 (0,0)):=(hb2.block _ (by simp)).trans (heap_alloc_new w1 _)
      have hz2:w2.heap[w.heap.size]?=some (.cells #[.int .i64 0,.int .i64 0] 32 (0,0)) :=
       (hb2.block _ (by simp;omega)).trans ((((Below.refl _ w1).alloc (Nat.le_refl _) _).block _ (by omega)).trans HQ2.out)
      have cf0:w2.cell? ⟨w1.heap.size,0,none⟩=some (.int .i64 0):=Za hf2 0
      have cf1:w2.cell? ⟨w1.heap.size,1,none⟩=some (.int .i64 0):=Za hf2 1
      have cz0:w2.cell? ⟨w.heap.size,0,none⟩=some (.int .i64 0):=Za hz2 0
      have cz1:w2.cell? ⟨w.heap.size,1,none⟩=some (.int .i64 0):=Za hz2 1
      have fz0:=Zd hz2 0
      have fz1:=Zd hz2 1
      have HB2:=hid ((HB1.out.alloc HB1.out.size _).trans (hb2.mono (Nat.le_trans HB1.out.size (by simp))))
      have hs2:w.heap.size+1≤w2.heap.size:=by have:=hb2.size;simp at this;omega
      clear hb2 hf2
      have d0:=(HB2.out.cell (p:=⟨bd,0,none⟩) hlt.1).trans h0
      have dc1:=(HB2.out.cell (p:=⟨bn,n*4+1,none⟩) hlt.2).trans hc1
      have HZ:=hid hz2
      clear hz2 HQ2 HB1
      rw[h1b])
   | (go_at_call 115;refine(XJ t _ HT.out l HC.out).mono ?_;rintro e w3 ⟨v3,rfl,ho3,hb3⟩
      obtain⟨a3,c3,hv3⟩:=Zo ho3
      subst hv3
      have hz3:w3.heap[w.heap.size]?=some (.cells #[.int .i64 0,.int .i64 0] 32 (0,0)):=(hb3.block _ (Zc HZ.out)).trans HZ.out
      have cz0':w3.cell? ⟨w.heap.size,0,none⟩=some (.int .i64 0):=Za hz3 0
      have cz1':w3.cell? ⟨w.heap.size,1,none⟩=some (.int .i64 0):=Za hz3 1
      have fz0':=Zd hz3 0
      have fz1':=Zd hz3 1
      have hs3:w.heap.size+1≤w3.heap.size:=by have:=hb3.size;omega
      have HB3:=hid (HB2.out.trans (hb3.mono HB2.out.size))
      have HZ3:=hid hz3
      have CR:=hid (J5 (HN.out.below HB3.out) n k cm x HX.out hlen (by omega) _ l HBIG.out (Jf ho3) HSM.out h6 (by omega))
      clear hb3 hz3 ho3)
   | (go_at_call 125
      (first | rw[← hcmI]|skip)
      refine CR.out.mono ?_
      rintro e w4 ⟨rfl,hk4,hr4⟩
      have hz4:=(hk4.block _ (Zc HZ3.out) (fun e=>Nat.lt_irrefl _ e.2)).trans HZ3.out
      have cz0'':w4.cell? ⟨w.heap.size,0,none⟩=some (.int .i64 0):=Za hz4 0
      have cz1'':w4.cell? ⟨w.heap.size,1,none⟩=some (.int .i64 0):=Za hz4 1
      have fz0'':=Zd hz4 0
      have fz1'':=Zd hz4 1
      have hs4:=Zc hz4
      have HK4:=hid hk4
      have HR4:=hid hr4
      clear hk4 hr4 hz4))
   refine bodyPost_ret (v:=Zi 0 0) (by simp[results,Tryz.results78,go_sem,cz0'',cz1'',fz0'',fz1'',hs4]) rfl ?_
   have hk5:Zb (fun b=>F b∧b<w.heap.size) w w4:=(Zb.of_below HB3.out).trans (HK4.out.mono (fun b _ e=>.inl e))
   have hk6:Zb (fun b=>b=w.heap.size) w4 ((w4.setCell ⟨w.heap.size,0,none⟩ (.int .i64 0)).setCell ⟨w.heap.size,1,none⟩ (.int .i64 0)):=((Zb.refl (fun b=>b=w.heap.size) w4).setCell (p:=⟨w.heap.size,0,none⟩) (.inl rfl) _).setCell (p:=⟨w.heap.size,1,none⟩) (.inl rfl) _
   obtain⟨bn4,cap4,rn4,rv4,hD4⟩:=HR4.out.keeps hk6 (fun b e e2=>by rcases e with e|e <;> omega)
   have hk7:Zb F w w4:=hk5.mono (fun b _ e=>e.1)
   refine⟨rfl,(hk7.setCell (p:=⟨w.heap.size,0,none⟩) (.inr (Nat.le_refl _)) _).setCell (p:=⟨w.heap.size,1,none⟩) (.inr (Nat.le_refl _)) _,bn4,cap4,rn4,rv4,hD4.wider (fun b e=>?_)⟩
   rcases e with e|e
   · exact .inl e.1
   · exact .inr (by omega)
end
end
section
open Go.RowKit Go.Lib
theorem Zi4 {V:List Nd→Sp→Prop} (hV:Yq V) (s:List Nd) (wf:WF s) (rs:List Sp) (h6:rs.length≤6) (hrs:∀ z∈rs,V s z) (A B C:Int) (t:ByteArray) (hts:t.size < lots):Ans (Z7 V) GG ⟨s,rs⟩ 34 78 [.int .i64 A,.int .i64 B,.int .i64 C,.string t] (fun v=>v) (fun v=>v):=by
 have hcap:=wf.cap
 cases hA:isB s A with
 | false =>
   refine⟨A,1,⟨s,rs⟩,⟨wf,h6,hrs⟩,?_,?_⟩
   · intro w F bx hg hP
     refine J2 hg hP A B C t (fun F' bf h=>?_)
     have h':=h
     obtain⟨bn,cap,pn,h⟩:=h
     exact(ZeA h' A B C t _ (Zc4 h A hA)).mono fun e w' hh=>⟨_,_,Yi A 1 (by decide),hh⟩
   · intro w F bd hR
     have hR':=hR
     obtain⟨bn,cap,rn,rv,hD⟩:=hR
     exact(Zb2 A B C t A 1 (by decide) (Zeu (hD.below (Z1 w)) A B hA)).mono fun e w' ⟨h1,h2⟩=>hR'.unchangedR h2 h1
 | true =>
   obtain⟨h1,h2⟩:=Y2 hA
   obtain⟨n,rfl⟩:∃ n:Nat,A=(n:Int):=⟨A.toNat,by omega⟩
   have hn:n<s.length:=by omega
   obtain⟨x,hx⟩:∃ x,s[n]?=some x:=⟨_,List.getElem?_eq_getElem hn⟩
   have hch:=wf.chars n x hx
   have hl':x.cs.length<lots:=by unfold lots;omega
   cases ht:x.t with
   | false =>
     refine⟨n,2,⟨s,rs⟩,⟨wf,h6,hrs⟩,?_,?_⟩
     · intro w F bx hg hP
       refine J2 hg hP n B C t (fun F' bf h=>?_)
       have h':=h
       obtain⟨bn,cap,pn,h⟩:=h
       exact(ZeA h' n B C t _ (Zc3 h n x hx ht)).mono fun e w' hh=>⟨_,_,Yi n 2 (by decide),hh⟩
     · intro w F bd hR
       have hR':=hR
       obtain⟨bn,cap,rn,rv,hD⟩:=hR
       exact(Zb2 n B C t n 2 (by decide) (Zet (hD.below (Z1 w)) n B x hx ht)).mono fun e w' ⟨h1,h2⟩=>hR'.unchangedR h2 h1
   | true =>
     by_cases hB:B<0∨(x.cs.length:Int)<B
     · refine⟨n,3,⟨s,rs⟩,⟨wf,h6,hrs⟩,?_,?_⟩
       · intro w F bx hg hP
         refine J2 hg hP n B C t (fun F' bf h=>?_)
         refine(Zce h n B C t x hx ht (Q:=fun u=>u=outV B) (fun w1 _=>(Zh7 x.cs hch.2 hl' B C hB t w1).mono fun e w' hh=>⟨⟨_,_,rfl,hh.1⟩,hh.2⟩)).mono ?_
         rintro e w' ⟨u,rfl,hh⟩
         exact⟨_,_,JM n B,hh⟩
       · intro w F bd hR
         have hR':=hR
         obtain⟨bn,cap,rn,rv,hD⟩:=hR
         exact(Zb2 n B C t n 3 (by decide) (Zes (hD.below (Z1 w)) n B x hx ht hB)).mono fun e w' ⟨h1,h2⟩=>hR'.unchangedR h2 h1
     · obtain⟨o,rfl⟩:∃ o:Nat,B=(o:Int):=⟨B.toNat,by omega⟩
       have ho:o≤x.cs.length:=by omega
       by_cases hC:C<0
       · refine⟨n,3,⟨s,rs⟩,⟨wf,h6,hrs⟩,?_,?_⟩
         · intro w F bx hg hP
           refine J2 hg hP n o C t (fun F' bf h=>?_)
           refine(Zce h n o C t x hx ht (Q:=fun u=>u=outV C) (fun w1 _=>(Zh4 x.cs hch.2 hl' o ho C hC t w1).mono fun e w' hh=>⟨⟨_,_,rfl,hh.1⟩,hh.2⟩)).mono ?_
           rintro e w' ⟨u,rfl,hh⟩
           exact⟨_,_,JM n C,hh⟩
         · intro w F bd hR
           have hR':=hR
           obtain⟨bn,cap,rn,rv,hD⟩:=hR
           exact(ZhK n o C t hC (XX (hD.below (Z1 w)) n o x hx ht ho)).mono fun e w' ⟨h1,h2⟩=>hR'.unchangedR h2 h1
       · obtain⟨cm,hcm⟩:∃ cm:Nat,cm=(min C ((x.cs.length:Int) - o)).toNat:=⟨_,rfl⟩
         have hcl:o+cm≤x.cs.length:=by omega
         have em:30 - o - (x.cs.length - (o+cm))=30 - (x.cs.length - cm):=by omega
         by_cases hY:∃ lf,YD (30 - o - (x.cs.length - (o+cm))) t lf
         · obtain⟨lf,hlf⟩:=hY
           have hlf30:lf.length≤30:=by have:=hlf.2;omega
           have hsum:x.cs.length - cm+lf.length≤30:=by have:=hlf.2;omega
           have hcs:(x.cs.take o++lf++x.cs.drop (o+cm)).length≤30∧∀ c∈x.cs.take o++lf++x.cs.drop (o+cm),IsCh c:=by
            refine⟨by simp;omega,fun c hc=>?_⟩
            rcases List.mem_append.1 hc with hc|hc
            · rcases List.mem_append.1 hc with hc|hc
              · exact hch.2 c (List.mem_of_mem_take hc)
              · exact JG t.size t lf (Nat.le_refl _) hlf.1 c hc
            · exact hch.2 c (List.mem_of_mem_drop hc)
           refine⟨0,0,⟨_,rs.map (mvSp (Zl n o cm lf.length))⟩,⟨J9 wf hx ht hcs,by simpa using h6,mapV hrs (fun z hz=>hV.replace wf hx ht hcl (J9 wf hx ht hcs) hz)⟩,?_,?_⟩
           · intro w F bx hg hP
             refine ZgH hg hP (Small.of wf (fun z hz=>hV.place (hrs z hz))) h6 n o C t (fun F' bf h=>?_)
             have hmin:min C ((x.cs.length:Int) - o)=(cm:Int):=by omega
             have hT:=Zez h n o C t x hx ht hch.1 hch.2 ho lf (x.cs.take o++lf++x.cs.drop (o+cm)) hlf.1 hlf30 (by omega) (fun w1 hb=>?_)
             · rw[hmin] at hT
               exact hT
             have hT:=hg.2.below hb
             by_cases hbig:(x.cs.length:Int) - o<C
             · exact Zh8 x.cs hch.2 hch.1 o cm C ho (by omega) (by omega) hbig t hts lf hlf w1 hT
             · exact Zel x.cs hch.2 hch.1 o cm C ho (by omega) (by omega) hcl t hts lf hlf w1 hT
           · rintro w F bd ⟨bn,cap,rn,rv,hD⟩
             exact(ZhL hD n o C x hx ht hch.1 ho (by omega) t hts lf hlf.1 cm hcm hsum (by unfold lots;omega) (Small.of wf (fun z hz=>hV.place (hrs z hz))) h6).mono fun e w' h=>h
         · have hN:∀ l',¬ YD (30 - o - (x.cs.length - (o+cm))) t l':=fun l' h=>hY ⟨l',h⟩
           refine⟨n,6,⟨s,rs⟩,⟨wf,h6,hrs⟩,?_,?_⟩
           · intro w F bx hg hP
             refine J2 hg hP n o C t (fun F' bf h=>?_)
             refine(Zce h n o C t x hx ht (Q:=fun u=>∃ k,u=Jb k) (fun w1 hb=>?_)).mono ?_
             · have hT:=hg.2.below hb
               by_cases hbig:(x.cs.length:Int) - o<C
               · exact(Zh5 x.cs hch.2 hch.1 o cm C ho (by omega) (by omega) hbig t hts hN w1 hT).mono fun e w' ⟨k,h1,h2⟩=>⟨⟨_,_,⟨k,rfl⟩,h1⟩,h2⟩
               · exact(Zh6 x.cs hch.2 hch.1 o cm C ho (by omega) (by omega) hcl t hts hN w1 hT).mono fun e w' ⟨k,h1,h2⟩=>⟨⟨_,_,⟨k,rfl⟩,h1⟩,h2⟩
             · rintro e w' ⟨u,⟨k,rfl⟩,hh⟩
               exact⟨_,_,ZcQ n k,hh⟩
           · intro w F bd hR
             have hR':=hR
             obtain⟨bn,cap,rn,rv,hD⟩:=hR
             cases hc:Zr t with
             | none=>exact(ZhJ hD n o C x hx ht hch.1 ho (by omega) t hts hc).mono fun e w' ⟨h1,h2⟩=>hR'.unchangedR h2 h1
             | some lf =>
               have h30:30<x.cs.length - (min C ((x.cs.length:Int) - o)).toNat+lf.length:=by
                rw[← hcm]
                rcases Nat.lt_or_ge 30 (x.cs.length - cm+lf.length) with h|h
                · exact h
                · exact absurd ⟨hc,by omega⟩ (hN lf)
               exact(ZhM hD n o C x hx ht hch.1 ho (by omega) t hts lf hc h30 (by have:=Zfj t lf hc;omega)).mono fun e w' ⟨h1,h2⟩=>hR'.unchangedR h2 h1
end
section
open Go.RowKit
theorem ZdR {s:List Nd} {a b:Int} (h:PlOk s a b):Zs s a b=(0,0):=by
 obtain⟨n,k,rfl,rfl,hn,hk⟩:=h
 have hb:isB s (n:Int)=true:=ZC (by omega)
 simp[Zs,hb,hk]
theorem Za7 {s:List Nd} (wf:WF s) {n t:Nat} (ht:Zm s n t) (hn:n < s.length):∃ l,Way s t n l:=by
 obtain⟨⟨m,hm⟩,x,hx,hp⟩:=ht
 have key:∀ (m n:Nat),n<s.length→climb s m n=(t:Int)→∃ l,Way s t n l:=by
  intro m
  induction m with
  | zero =>
    intro n hn h
    have:n=t:=by simp[climb] at h;omega
    subst this
    exact⟨[],.top⟩
  | succ m ih =>
    intro n hn h
    have hx:=List.getElem?_eq_getElem hn
    rcases wf.par n _ hx with hp|⟨i,y,hp,hy,hc⟩
    · exfalso
      have h1:climb s 1 n = -1:=by simp[climb,Zw,hx,hp]
      have h2:=XL (s:=s) (j:=1) (n:=n) (by rw[h1];decide) m
      rw[Nat.add_comm] at h2
      omega
    · have h1:climb s 1 n=(i:Int):=by simp[climb,Zw,hx,hp]
      have h2:=YF h1 m
      rw[Nat.add_comm] at h2
      rw[h2] at h
      obtain⟨l,wl⟩:=ih i (List.getElem?_eq_some_iff.1 hy).1 h
      obtain⟨k,hk,e⟩:=List.mem_iff_getElem.1 hc
      exact⟨l++[k],.down wl hy (by rw[List.getElem?_eq_getElem hk,e])⟩
 exact key m n hn hm
end
section
open Go.RowKit
theorem Zeb {w:World} {bd:Nat} (r p0 p1 a y:Int) (hS:∀ W,Below w.heap.size w W→Calls Tryz.prog 130 #[.pointer (some ⟨bd,0,none⟩),.int .i64 r,.agg #[.int .i64 p0,.int .i64 p1],.bool true] W fun e w'=>e=.returned (Zi a y)∧Below W.heap.size W w') :
 Calls Tryz.prog 82 #[.pointer (some ⟨bd,0,none⟩),.int .i64 r,.agg #[.int .i64 p0,.int .i64 p1]] w fun e w'=>e=.returned (Zi a y)∧Below w.heap.size w w':=by
 have HB0:=hid (show Below w.heap.size w (pf w p0 p1) from ((Below.refl _ w).alloc (Nat.le_refl _) _).alloc (by simp) _)
 have C:=hid (hS _ HB0.out)
 have a1:(pf w p0 p1).heap[w.heap.size+1]?=some (.cells #[.int .i64 0,.int .i64 0] 32 (0,0)):=by
  have:=heap_alloc_new (w.alloc (.cells #[.int .i64 p0,.int .i64 p1] 37)) (.cells #[.int .i64 0,.int .i64 0] 32)
  simpa using this
 have HA1:=hid a1
 clear hS a1
 go_enter Tryz.func82,Tryz.ntmps82
 go_wp2_with (
  go_at_call 130
  refine C.out.mono ?_
  rintro e w1 ⟨rfl,hb1⟩
  have hz:=(hb1.block _ (Zc HA1.out)).trans HA1.out
  have z0:=Za hz 0
  have z1:=Za hz 1
  have f0:=Zd hz 0
  have f1:=Zd hz 1
  have hl:=Zc hz
  have HB1:=hid (HB0.out.trans (hb1.mono HB0.out.size))
  clear hb1 hz)
 refine bodyPost_ret (v:=Zi a y) (by simp[results,Tryz.results82,go_sem,z0,z1,f0,f1,hl]) rfl ?_
 exact⟨rfl,(HB1.out.setCell (p:=⟨w.heap.size+1,0,none⟩) (Nat.le_succ _) _).setCell (p:=⟨w.heap.size+1,1,none⟩) (Nat.le_succ _) _⟩
theorem Zb5 {w:World} {F:Nat→Prop} {bd:Nat} {s:List Nd} {rs rs':List Sp} (hD:RDoc w F bd s rs) (r p0 p1:Int) (hS:∀ (W:World) (G:Nat→Prop),RDoc W G bd s rs→Calls Tryz.prog 130 #[.pointer (some ⟨bd,0,none⟩),.int .i64 r,.agg #[.int .i64 p0,.int .i64 p1],.bool true] W fun e w'=>e=.returned (Zi 0 0)∧Zb G W w'∧RDoc w' (fun b=>G b∨W.heap.size≤b) bd s rs') :
 Calls Tryz.prog 82 #[.pointer (some ⟨bd,0,none⟩),.int .i64 r,.agg #[.int .i64 p0,.int .i64 p1]] w fun e w'=>e=.returned (Zi 0 0)∧Zb F w w'∧RDoc w' (grow F w) bd s rs':=by
 have HB0:=hid (show Below w.heap.size w (pf w p0 p1) from ((Below.refl _ w).alloc (Nat.le_refl _) _).alloc (by simp) _)
 have hD0:RDoc (pf w p0 p1) (fun b=>F b∧b<w.heap.size) bd s rs:=by
  obtain⟨bn,cap,rn,rv,h⟩:=hD
  exact⟨bn,cap,rn,rv,h.narrow.below HB0.out⟩
 have C:=hid (hS _ _ hD0)
 have a1:(pf w p0 p1).heap[w.heap.size+1]?=some (.cells #[.int .i64 0,.int .i64 0] 32 (0,0)):=by
  have:=heap_alloc_new (w.alloc (.cells #[.int .i64 p0,.int .i64 p1] 37)) (.cells #[.int .i64 0,.int .i64 0] 32)
  simpa using this
 have HA1:=hid a1
 clear hS a1 hD0 hD
 go_enter Tryz.func82,Tryz.ntmps82
 go_wp2_with (
  go_at_call 130
  refine C.out.mono ?_
  rintro e w1 ⟨rfl,hk1,hd1⟩
  have hz:=(hk1.block _ (Zc HA1.out) (fun e=>by omega)).trans HA1.out
  have z0:=Za hz 0
  have z1:=Za hz 1
  have f0:=Zd hz 0
  have f1:=Zd hz 1
  have hl:=Zc hz
  have H1:=hid (And.intro hk1 hd1)
  clear hk1 hd1 hz)
 refine bodyPost_ret (v:=Zi 0 0) (by simp[results,Tryz.results82,go_sem,z0,z1,f0,f1,hl]) rfl ?_
 obtain⟨hk1,hd1⟩:=H1.out
 have hk2:Zb F w w1:=(Zb.of_below HB0.out).trans (hk1.mono (fun b _ e=>.inl e.1))
 refine⟨rfl,(hk2.setCell (p:=⟨w.heap.size+1,0,none⟩) (.inr (Nat.le_succ _)) _).setCell (p:=⟨w.heap.size+1,1,none⟩) (.inr (Nat.le_succ _)) _,?_⟩
 refine(hd1.keeps (((Zb.refl (fun b=>b=w.heap.size+1) _).setCell (p:=⟨w.heap.size+1,0,none⟩) (.inl rfl) _).setCell (p:=⟨w.heap.size+1,1,none⟩) (.inl rfl) _) ?_).wider ?_
 · intro b hb e
   rcases hb with hb|hb
   · omega
   · simp only[World.size_alloc] at hb
     omega
 · intro b hb
   rcases hb with hb|hb
   · exact .inl hb.1
   · simp only[World.size_alloc] at hb
     exact .inr (by omega)
theorem Zd4 {w:World} {bd:Nat} (r p0 p1 a y:Int) (hS:∀ W,Below w.heap.size w W→Calls Tryz.prog 130 #[.pointer (some ⟨bd,0,none⟩),.int .i64 r,.agg #[.int .i64 p0,.int .i64 p1],.bool false] W fun e w'=>e=.returned (Zi a y)∧Below W.heap.size W w') :
 Calls Tryz.prog 83 #[.pointer (some ⟨bd,0,none⟩),.int .i64 r,.agg #[.int .i64 p0,.int .i64 p1]] w fun e w'=>e=.returned (Zi a y)∧Below w.heap.size w w':=by
 have HB0:=hid (show Below w.heap.size w (pf w p0 p1) from ((Below.refl _ w).alloc (Nat.le_refl _) _).alloc (by simp) _)
 have C:=hid (hS _ HB0.out)
 have a1:(pf w p0 p1).heap[w.heap.size+1]?=some (.cells #[.int .i64 0,.int .i64 0] 32 (0,0)):=by
  have:=heap_alloc_new (w.alloc (.cells #[.int .i64 p0,.int .i64 p1] 37)) (.cells #[.int .i64 0,.int .i64 0] 32)
  simpa using this
 have HA1:=hid a1
 clear hS a1
 go_enter Tryz.func83,Tryz.ntmps83
 go_wp2_with (
  go_at_call 130
  refine C.out.mono ?_
  rintro e w1 ⟨rfl,hb1⟩
  have hz:=(hb1.block _ (Zc HA1.out)).trans HA1.out
  have z0:=Za hz 0
  have z1:=Za hz 1
  have f0:=Zd hz 0
  have f1:=Zd hz 1
  have hl:=Zc hz
  have HB1:=hid (HB0.out.trans (hb1.mono HB0.out.size))
  clear hb1 hz)
 refine bodyPost_ret (v:=Zi a y) (by simp[results,Tryz.results83,go_sem,z0,z1,f0,f1,hl]) rfl ?_
 exact⟨rfl,(HB1.out.setCell (p:=⟨w.heap.size+1,0,none⟩) (Nat.le_succ _) _).setCell (p:=⟨w.heap.size+1,1,none⟩) (Nat.le_succ _) _⟩
theorem ZbZ {w:World} {F:Nat→Prop} {bd:Nat} {s:List Nd} {rs rs':List Sp} (hD:RDoc w F bd s rs) (r p0 p1:Int) (hS:∀ (W:World) (G:Nat→Prop),RDoc W G bd s rs→Calls Tryz.prog 130 #[.pointer (some ⟨bd,0,none⟩),.int .i64 r,.agg #[.int .i64 p0,.int .i64 p1],.bool false] W fun e w'=>e=.returned (Zi 0 0)∧Zb G W w'∧RDoc w' (fun b=>G b∨W.heap.size≤b) bd s rs') :
 Calls Tryz.prog 83 #[.pointer (some ⟨bd,0,none⟩),.int .i64 r,.agg #[.int .i64 p0,.int .i64 p1]] w fun e w'=>e=.returned (Zi 0 0)∧Zb F w w'∧RDoc w' (grow F w) bd s rs':=by
 have HB0:=hid (show Below w.heap.size w (pf w p0 p1) from ((Below.refl _ w).alloc (Nat.le_refl _) _).alloc (by simp) _)
 have hD0:RDoc (pf w p0 p1) (fun b=>F b∧b<w.heap.size) bd s rs:=by
  obtain⟨bn,cap,rn,rv,h⟩:=hD
  exact⟨bn,cap,rn,rv,h.narrow.below HB0.out⟩
 have C:=hid (hS _ _ hD0)
 have a1:(pf w p0 p1).heap[w.heap.size+1]?=some (.cells #[.int .i64 0,.int .i64 0] 32 (0,0)):=by
  have:=heap_alloc_new (w.alloc (.cells #[.int .i64 p0,.int .i64 p1] 37)) (.cells #[.int .i64 0,.int .i64 0] 32)
  simpa using this
 have HA1:=hid a1
 clear hS a1 hD0 hD
 go_enter Tryz.func83,Tryz.ntmps83
 go_wp2_with (
  go_at_call 130
  refine C.out.mono ?_
  rintro e w1 ⟨rfl,hk1,hd1⟩
  have hz:=(hk1.block _ (Zc HA1.out) (fun e=>by omega)).trans HA1.out
  have z0:=Za hz 0
  have z1:=Za hz 1
  have f0:=Zd hz 0
  have f1:=Zd hz 1
  have hl:=Zc hz
  have H1:=hid (And.intro hk1 hd1)
  clear hk1 hd1 hz)
 refine bodyPost_ret (v:=Zi 0 0) (by simp[results,Tryz.results83,go_sem,z0,z1,f0,f1,hl]) rfl ?_
 obtain⟨hk1,hd1⟩:=H1.out
 have hk2:Zb F w w1:=(Zb.of_below HB0.out).trans (hk1.mono (fun b _ e=>.inl e.1))
 refine⟨rfl,(hk2.setCell (p:=⟨w.heap.size+1,0,none⟩) (.inr (Nat.le_succ _)) _).setCell (p:=⟨w.heap.size+1,1,none⟩) (.inr (Nat.le_succ _)) _,?_⟩
 refine(hd1.keeps (((Zb.refl (fun b=>b=w.heap.size+1) _).setCell (p:=⟨w.heap.size+1,0,none⟩) (.inl rfl) _).setCell (p:=⟨w.heap.size+1,1,none⟩) (.inl rfl) _) ?_).wider ?_
 · intro b hb e
   rcases hb with hb|hb
   · omega
   · simp only[World.size_alloc] at hb
     omega
 · intro b hb
   rcases hb with hb|hb
   · exact .inl hb.1
   · simp only[World.size_alloc] at hb
     exact .inr (by omega)
end
section
open Go.RowKit
structure Wi (w:World) (W:Nat) (a b c d p0 p1:Int):Prop where
 s:w.heap[W]?=some (.cells #[.int .i64 a,.int .i64 b,.int .i64 c,.int .i64 d] 79 (0,0))
 p:w.heap[W+1]?=some (.cells #[.int .i64 p0,.int .i64 p1] 37 (0,0))
abbrev wi0 (w:World) (a b c d p0 p1:Int):World:=(w.alloc (.cells #[.int .i64 a,.int .i64 b,.int .i64 c,.int .i64 d] 79)).alloc (.cells #[.int .i64 p0,.int .i64 p1] 37)
theorem Za9 (w:World) (a b c d p0 p1:Int):Below w.heap.size w (wi0 w a b c d p0 p1):=((Below.refl _ w).alloc (Nat.le_refl _) _).alloc (by simp) _
theorem Za8 (w:World) (a b c d p0 p1:Int):Wi (wi0 w a b c d p0 p1) w.heap.size a b c d p0 p1:=by
 constructor
 · rw[Below.heap_alloc _ _ _ (by simp),heap_alloc_new]
 · have:=heap_alloc_new (w.alloc (.cells #[.int .i64 a,.int .i64 b,.int .i64 c,.int .i64 d] 79)) (.cells #[.int .i64 p0,.int .i64 p1] 37)
   simpa using this
theorem Wi.below {w w':World} {W:Nat} {a b c d p0 p1:Int} (h:Wi w W a b c d p0 p1) (hb:Below w.heap.size w w'):Wi w' W a b c d p0 p1:=⟨(hb.block _ (Zc h.s)).trans h.s,(hb.block _ (Zc h.p)).trans h.p⟩
theorem Wi.cells {w:World} {W:Nat} {a b c d p0 p1:Int} (h:Wi w W a b c d p0 p1):w.cell? ⟨W,0,none⟩=some (.int .i64 a)∧w.cell? ⟨W,1,none⟩=some (.int .i64 b)∧w.cell? ⟨W,2,none⟩=some (.int .i64 c)∧w.cell? ⟨W,3,none⟩=some (.int .i64 d)∧w.cell? ⟨W+1,0,none⟩=some (.int .i64 p0)∧w.cell? ⟨W+1,1,none⟩=some (.int .i64 p1) :=
 ⟨Za h.s 0,Za h.s 1,Za h.s 2,Za h.s 3,Za h.p 0,Za h.p 1⟩
section
variable {w:World} {F:Nat→Prop} {bx bf bl:Nat} {sv:Value} {s:List Nd} {rs:List Sp}
theorem Zk.spanAt (hD:Zk w F bx bf bl sv ⟨s,rs⟩) {r g c n:Nat} {x:Sp} (hx:rs[r]?=some x) (hv:sv=.slice (some ⟨g,0,none⟩) n c):w.cell? ⟨g,r * 4,none⟩=some (.int .i64 x.a)∧w.cell? ⟨g,r * 4+1,none⟩=some (.int .i64 x.b)∧w.cell? ⟨g,r * 4+2,none⟩=some (.int .i64 x.c)∧w.cell? ⟨g,r * 4+3,none⟩=some (.int .i64 x.d)∧(∀ o,w.frozen? ⟨g,o,none⟩=false):=by
 obtain⟨g',c',hv',_,h0,h1,h2,h3⟩:=hD.spanCells hx
 rw[hv] at hv'
 cases hv'
 have hrow:=hD.spans
 rw[hv] at hrow
 exact⟨h0,h1,h2,h3,fun o=>hrow.frozenAt o⟩
theorem Zk.grown {w0:World} {st:St} (h:Zk w0 F bx bf bl sv st) (w:World):Zk w0 (grow F w) bx bf bl sv st :=
 ⟨.inl h.Fx,h.Hx,h.doc,.inl h.Fl,h.Hl,h.ne,h.list,h.spans,fun b e=>⟨.inl (h.apart b e).1,(h.apart b e).2⟩,h.nodes.wider (fun b hb=>⟨.inl hb.1,hb.2⟩)⟩
theorem Zk.setAll (h:Zk w F bx bf bl sv ⟨s,rs⟩) {q g c:Nat} (hrv:sv=.slice (some ⟨g,0,none⟩) rs.length c) {r:Sp} (hr:rs[q]?=some r) (v0 v1 v2 v3:Int) :
 Zk ((((w.setCell ⟨g,q*4,none⟩ (.int .i64 v0)).setCell ⟨g,q*4+1,none⟩ (.int .i64 v1)).setCell ⟨g,q*4+2,none⟩ (.int .i64 v2)).setCell ⟨g,q*4+3,none⟩ (.int .i64 v3)) F bx bf bl sv ⟨s,rs.set q ⟨v0,v1,v2,v3⟩⟩:=by
 have hq:=(List.getElem?_eq_some_iff.1 hr).1
 have hrow:=h.spans
 simp only at hrow
 rw[hrv] at hrow
 have d0:=Xz hrow hr (r':=⟨v0,r.b,r.c,r.d⟩) 0 (by omega) (.int .i64 v0) rfl
 have d1:=Xz d0 (List.getElem?_set_self hq) (r':=⟨v0,v1,r.c,r.d⟩) 1 (by omega) (.int .i64 v1) rfl
 rw[List.set_set] at d1
 have d2:=Xz d1 (List.getElem?_set_self hq) (r':=⟨v0,v1,v2,r.d⟩) 2 (by omega) (.int .i64 v2) rfl
 rw[List.set_set] at d2
 have d3:=Xz d2 (List.getElem?_set_self hq) (r':=⟨v0,v1,v2,v3⟩) 3 (by omega) (.int .i64 v3) rfl
 rw[List.set_set] at d3
 have hg:sv.ownBlock=some g:=by rw[hrv];rfl
 refine h.moved (rs':=rs.set q ⟨v0,v1,v2,v3⟩) ((((Zb.refl (fun b=>sv.ownBlock=some b) w).setCell (p:=⟨g,q*4,none⟩) (.inl hg) (.int .i64 v0)).setCell (p:=⟨g,q*4+1,none⟩) (.inl hg) (.int .i64 v1)).setCell (p:=⟨g,q*4+2,none⟩) (.inl hg) (.int .i64 v2) |>.setCell (p:=⟨g,q*4+3,none⟩) (.inl hg) (.int .i64 v3)) ?_
 rw[hrv,List.length_set]
 exact d3
theorem Zdz (hD:Zk w F bx bf bl sv ⟨s,rs⟩) (r:Nat) (x:Sp) (hx:rs[r]?=some x) (a b c d p0 p1:Int) (u:Value)
 (hC:∀ W,Below w.heap.size w W→Calls Tryz.prog 62 #[ptr bf,.agg #[.int .i64 a,.int .i64 b],.agg #[.int .i64 c,.int .i64 d]] W fun e w'=>e=.returned (.tuple #[.int .i64 0,.iface 145 u])∧Below W.heap.size W w')
 (hI:∀ W,Calls Tryz.prog 22 #[.iface 145 u,.iface 30 (.int .i64 9)] W fun e w'=>e=.returned (.bool false)∧Below W.heap.size W w') :
 Calls Tryz.prog 111 #[ptr bl,.int .i64 (r:Int),spV ⟨a,b,c,d⟩,.agg #[.int .i64 p0,.int .i64 p1]] w fun e w'=>e=.returned (.iface 145 u)∧Below w.heap.size w w':=by
 have hr:r<rs.length:=(List.getElem?_eq_some_iff.1 hx).1
 have c0:w.cell? ⟨bl,0,none⟩=some (ptr bf):=Za hD.list 0
 have c1:w.cell? ⟨bl,1,none⟩=some sv:=Za hD.list 1
 have hll:=Zc hD.list
 obtain⟨g,cp,hsv,hgl,e0,e1,e2,e3⟩:=hD.spanCells hx
 rw[hsv] at c1
 have HB:=hid (Za9 w a b c d p0 p1)
 have hwi:=Za8 w a b c d p0 p1
 obtain⟨y0,y1,y2,y3,y4,y5⟩:=hwi.cells
 have C1:=hid (hC _ HB.out.drew)
 have HWI:=hid hwi
 have HSV:=hid hsv
 have HX:=hid hx
 have HD:=hid hD
 have hbg:¬ bl=g:=fun e=>(hD.apart g (by rw[hsv];rfl)).2.2.2 e.symm
 have CI:=hid hI
 clear hD hC hwi hsv hx hI
 go_enter Tryz.func111,Tryz.ntmps111
 go_wp2
 go_region_held3 (fun w'=>w'.cell? ⟨bl,0,none⟩=some (ptr bf)∧w'.cell? ⟨w.heap.size,0,none⟩=some (.int .i64 a)∧w'.cell? ⟨w.heap.size,1,none⟩=some (.int .i64 b)∧w'.cell? ⟨w.heap.size,2,none⟩=some (.int .i64 c)∧w'.cell? ⟨w.heap.size,3,none⟩=some (.int .i64 d)) (first|exact KP1.out|go_keep) ((
  go_at_call 62
  refine C1.out.mono ?_
  rintro e w1 ⟨rfl,hb1⟩
  have hB1:Below (wi0 w a b c d p0 p1).heap.size (wi0 w a b c d p0 p1) w1:=⟨hb1.os,hb1.tape,hb1.output,hb1.size,hb1.block⟩
  have hw1:=HWI.out.below hB1
  have HB1:=hid (HB.out.trans (hB1.mono HB.out.size))
  obtain⟨z0,z1,z2,z3,z4,z5⟩:=hw1.cells
  have KP1:=hid (And.intro ((HB1.out.cell (p:=⟨bl,0,none⟩) hll).trans c0) (And.intro z0 (And.intro z1 (And.intro z2 z3))))
  have HW1:=hid hw1
  clear hb1 hB1 hw1 z0 z1 z2 z3 z4 z5))
 all_goals
  go_wp2_with (
   go_at_call 22;refine(CI.out _).mono ?_;rintro e w2 ⟨rfl,hb2⟩
   have HB2:=hid (HB1.out.trans (hb2.mono HB1.out.size))
   have hw2x:=HW1.out.below hb2
   obtain⟨z0,z1,z2,z3,z4,z5⟩:=hw2x.cells
   have hpl:=Zc hw2x.p
   obtain⟨q0,q1,q2,q3,qf⟩:=(HD.out.below HB2.out).spanAt HX.out HSV.out
   have qf0:=qf (r*4)
   have qf1:=qf (r*4+1)
   have qf2:=qf (r*4+2)
   have qf3:=qf (r*4+3)
   have k1:=(HB2.out.cell (p:=⟨bl,1,none⟩) hll).trans c1
   skip
   clear hb2 hw2x qf)
  go_ret
  exact⟨rfl,HB2.out⟩
theorem ZdA (hD:Zk w F bx bf bl sv ⟨s,rs⟩) (r:Nat) (x:Sp) (hx:rs[r]?=some x) (a b c d p0 p1:Int) (y:Int)
 (hC:∀ W,Below w.heap.size w W→Calls Tryz.prog 62 #[ptr bf,.agg #[.int .i64 a,.int .i64 b],.agg #[.int .i64 c,.int .i64 d]] W fun e w'=>e=.returned (.tuple #[.int .i64 0,ZO y 9])∧Below W.heap.size W w') :
 Calls Tryz.prog 111 #[ptr bl,.int .i64 (r:Int),spV ⟨a,b,c,d⟩,.agg #[.int .i64 p0,.int .i64 p1]] w fun e w'=>e=.returned .nilIface∧Zb F w w'∧Zk w' (grow F w) bx bf bl sv ⟨s,rs.set r ⟨p0,p1,p0,p1⟩⟩:=by
 have hr:r<rs.length:=(List.getElem?_eq_some_iff.1 hx).1
 have c0:w.cell? ⟨bl,0,none⟩=some (ptr bf):=Za hD.list 0
 have c1:w.cell? ⟨bl,1,none⟩=some sv:=Za hD.list 1
 have hll:=Zc hD.list
 obtain⟨g,cp,hsv,hgl,e0,e1,e2,e3⟩:=hD.spanCells hx
 rw[hsv] at c1
 have HB:=hid (Za9 w a b c d p0 p1)
 have hwi:=Za8 w a b c d p0 p1
 obtain⟨y0,y1,y2,y3,y4,y5⟩:=hwi.cells
 have C1:=hid (hC _ HB.out.drew)
 have HWI:=hid hwi
 have HSV:=hid hsv
 have HX:=hid hx
 have HD:=hid hD
 have hbg:¬ bl=g:=fun e=>(hD.apart g (by rw[hsv];rfl)).2.2.2 e.symm
 skip
 clear hD hC hwi hsv hx
 go_enter Tryz.func111,Tryz.ntmps111
 go_wp2
 go_region_held3 (fun w'=>w'.cell? ⟨bl,0,none⟩=some (ptr bf)∧w'.cell? ⟨w.heap.size,0,none⟩=some (.int .i64 a)∧w'.cell? ⟨w.heap.size,1,none⟩=some (.int .i64 b)∧w'.cell? ⟨w.heap.size,2,none⟩=some (.int .i64 c)∧w'.cell? ⟨w.heap.size,3,none⟩=some (.int .i64 d)) (first|exact KP1.out|go_keep) ((
  go_at_call 62
  refine C1.out.mono ?_
  rintro e w1 ⟨rfl,hb1⟩
  have hB1:Below (wi0 w a b c d p0 p1).heap.size (wi0 w a b c d p0 p1) w1:=⟨hb1.os,hb1.tape,hb1.output,hb1.size,hb1.block⟩
  have hw1:=HWI.out.below hB1
  have HB1:=hid (HB.out.trans (hB1.mono HB.out.size))
  obtain⟨z0,z1,z2,z3,z4,z5⟩:=hw1.cells
  have KP1:=hid (And.intro ((HB1.out.cell (p:=⟨bl,0,none⟩) hll).trans c0) (And.intro z0 (And.intro z1 (And.intro z2 z3))))
  have HW1:=hid hw1
  clear hb1 hB1 hw1 z0 z1 z2 z3 z4 z5))
 all_goals
  go_wp2_with (
   go_at_call 22;refine(Zgc y 9 9 (fun w=>by kernel_rfl) _).mono ?_;rintro e w2 ⟨rfl,hb2⟩
   have HB2:=hid (HB1.out.trans (hb2.mono HB1.out.size))
   have hw2x:=HW1.out.below hb2
   obtain⟨z0,z1,z2,z3,z4,z5⟩:=hw2x.cells
   have hpl:=Zc hw2x.p
   obtain⟨q0,q1,q2,q3,qf⟩:=(HD.out.below HB2.out).spanAt HX.out HSV.out
   have qf0:=qf (r*4)
   have qf1:=qf (r*4+1)
   have qf2:=qf (r*4+2)
   have qf3:=qf (r*4+3)
   have k1:=(HB2.out.cell (p:=⟨bl,1,none⟩) hll).trans c1
   skip
   clear hb2 hw2x qf)
  go_region
  go_wp2
  go_ret
  have hk:Zb F w w2:=Zb.of_below HB2.out
  have hFg:F g:=(HD.out.apart g (by rw[HSV.out];rfl)).1
  have hd:=((HD.out.below HB2.out).setAll HSV.out HX.out p0 p1 p0 p1)
  exact⟨rfl,(((((hk.setCell (p:=⟨g,r*4,none⟩) (.inl hFg) _).setCell (p:=⟨g,r*4+1,none⟩) (.inl hFg) _).setCell (p:=⟨g,r*4+2,none⟩) (.inl hFg) _).setCell (p:=⟨g,r*4+3,none⟩) (.inl hFg) _).drew),(hd.below (Zj (Below.refl _ _) 1)).grown w⟩
theorem Zdx (hD:Zk w F bx bf bl sv ⟨s,rs⟩) (r:Nat) (x:Sp) (hx:rs[r]?=some x) (a b c d p0 p1:Int) (o:Int) (ho:0 < o)
 (hC:∀ W,Below w.heap.size w W→Calls Tryz.prog 62 #[ptr bf,.agg #[.int .i64 a,.int .i64 b],.agg #[.int .i64 c,.int .i64 d]] W fun e w'=>e=.returned (.tuple #[.int .i64 o,.nilIface])∧Below W.heap.size W w') :
 Calls Tryz.prog 111 #[ptr bl,.int .i64 (r:Int),spV ⟨a,b,c,d⟩,.agg #[.int .i64 p0,.int .i64 p1]] w fun e w'=>e=.returned .nilIface∧Zb F w w'∧Zk w' (grow F w) bx bf bl sv ⟨s,rs.set r ⟨p0,p1,p0,p1⟩⟩:=by
 have hr:r<rs.length:=(List.getElem?_eq_some_iff.1 hx).1
 have c0:w.cell? ⟨bl,0,none⟩=some (ptr bf):=Za hD.list 0
 have c1:w.cell? ⟨bl,1,none⟩=some sv:=Za hD.list 1
 have hll:=Zc hD.list
 obtain⟨g,cp,hsv,hgl,e0,e1,e2,e3⟩:=hD.spanCells hx
 rw[hsv] at c1
 have HB:=hid (Za9 w a b c d p0 p1)
 have hwi:=Za8 w a b c d p0 p1
 obtain⟨y0,y1,y2,y3,y4,y5⟩:=hwi.cells
 have C1:=hid (hC _ HB.out.drew)
 have HWI:=hid hwi
 have HSV:=hid hsv
 have HX:=hid hx
 have HD:=hid hD
 have hbg:¬ bl=g:=fun e=>(hD.apart g (by rw[hsv];rfl)).2.2.2 e.symm
 have ho1:decide (0<o)=true:=decide_eq_true ho
 skip
 clear hD hC hwi hsv hx
 go_enter Tryz.func111,Tryz.ntmps111
 go_wp2
 go_region_held3 (fun w'=>w'.cell? ⟨bl,0,none⟩=some (ptr bf)∧w'.cell? ⟨w.heap.size,0,none⟩=some (.int .i64 a)∧w'.cell? ⟨w.heap.size,1,none⟩=some (.int .i64 b)∧w'.cell? ⟨w.heap.size,2,none⟩=some (.int .i64 c)∧w'.cell? ⟨w.heap.size,3,none⟩=some (.int .i64 d)) (first|exact KP1.out|go_keep) ((
  go_at_call 62
  refine C1.out.mono ?_
  rintro e w1 ⟨rfl,hb1⟩
  have hB1:Below (wi0 w a b c d p0 p1).heap.size (wi0 w a b c d p0 p1) w1:=⟨hb1.os,hb1.tape,hb1.output,hb1.size,hb1.block⟩
  have hw1:=HWI.out.below hB1
  have HB1:=hid (HB.out.trans (hB1.mono HB.out.size))
  obtain⟨z0,z1,z2,z3,z4,z5⟩:=hw1.cells
  have KP1:=hid (And.intro ((HB1.out.cell (p:=⟨bl,0,none⟩) hll).trans c0) (And.intro z0 (And.intro z1 (And.intro z2 z3))))
  have HW1:=hid hw1
  clear hb1 hB1 hw1 z0 z1 z2 z3 z4 z5))
 all_goals
  go_wp2_with (
   go_at_call 22;refine(Zaz 9 _).mono ?_;rintro e w2' ⟨rfl,hw2⟩;obtain⟨w2,hw2'⟩:∃ w2,w2'=w2:=⟨_,rfl⟩;have hb2:Below w1.heap.size w1 w2:=by rw[← hw2',hw2];exact Below.refl _ _
   have HB2:=hid (HB1.out.trans (hb2.mono HB1.out.size))
   have hw2x:=HW1.out.below hb2
   obtain⟨z0,z1,z2,z3,z4,z5⟩:=hw2x.cells
   have hpl:=Zc hw2x.p
   obtain⟨q0,q1,q2,q3,qf⟩:=(HD.out.below HB2.out).spanAt HX.out HSV.out
   have qf0:=qf (r*4)
   have qf1:=qf (r*4+1)
   have qf2:=qf (r*4+2)
   have qf3:=qf (r*4+3)
   have k1:=(HB2.out.cell (p:=⟨bl,1,none⟩) hll).trans c1
   rw[hw2']
   clear hb2 hw2x qf hw2 hw2')
  go_region
  go_wp2
  go_ret
  have hk:Zb F w w2:=Zb.of_below HB2.out
  have hFg:F g:=(HD.out.apart g (by rw[HSV.out];rfl)).1
  have hd:=((HD.out.below HB2.out).setAll HSV.out HX.out p0 p1 p0 p1)
  exact⟨rfl,(((((hk.setCell (p:=⟨g,r*4,none⟩) (.inl hFg) _).setCell (p:=⟨g,r*4+1,none⟩) (.inl hFg) _).setCell (p:=⟨g,r*4+2,none⟩) (.inl hFg) _).setCell (p:=⟨g,r*4+3,none⟩) (.inl hFg) _).drew),(hd.below (Zj (Below.refl _ _) 1)).grown w⟩
theorem Zdy (hD:Zk w F bx bf bl sv ⟨s,rs⟩) (r:Nat) (x:Sp) (hx:rs[r]?=some x) (a b c d p0 p1:Int) (o:Int) (ho:¬ 0 < o)
 (hC:∀ W,Below w.heap.size w W→Calls Tryz.prog 62 #[ptr bf,.agg #[.int .i64 a,.int .i64 b],.agg #[.int .i64 c,.int .i64 d]] W fun e w'=>e=.returned (.tuple #[.int .i64 o,.nilIface])∧Below W.heap.size W w') :
 Calls Tryz.prog 111 #[ptr bl,.int .i64 (r:Int),spV ⟨a,b,c,d⟩,.agg #[.int .i64 p0,.int .i64 p1]] w fun e w'=>e=.returned .nilIface∧Zb F w w'∧Zk w' (grow F w) bx bf bl sv ⟨s,rs.set r ⟨a,b,c,d⟩⟩:=by
 have hr:r<rs.length:=(List.getElem?_eq_some_iff.1 hx).1
 have c0:w.cell? ⟨bl,0,none⟩=some (ptr bf):=Za hD.list 0
 have c1:w.cell? ⟨bl,1,none⟩=some sv:=Za hD.list 1
 have hll:=Zc hD.list
 obtain⟨g,cp,hsv,hgl,e0,e1,e2,e3⟩:=hD.spanCells hx
 rw[hsv] at c1
 have HB:=hid (Za9 w a b c d p0 p1)
 have hwi:=Za8 w a b c d p0 p1
 obtain⟨y0,y1,y2,y3,y4,y5⟩:=hwi.cells
 have C1:=hid (hC _ HB.out.drew)
 have HWI:=hid hwi
 have HSV:=hid hsv
 have HX:=hid hx
 have HD:=hid hD
 have hbg:¬ bl=g:=fun e=>(hD.apart g (by rw[hsv];rfl)).2.2.2 e.symm
 have ho1:decide (0<o)=false:=decide_eq_false ho
 skip
 clear hD hC hwi hsv hx
 go_enter Tryz.func111,Tryz.ntmps111
 go_wp2
 go_region_held3 (fun w'=>w'.cell? ⟨bl,0,none⟩=some (ptr bf)∧w'.cell? ⟨w.heap.size,0,none⟩=some (.int .i64 a)∧w'.cell? ⟨w.heap.size,1,none⟩=some (.int .i64 b)∧w'.cell? ⟨w.heap.size,2,none⟩=some (.int .i64 c)∧w'.cell? ⟨w.heap.size,3,none⟩=some (.int .i64 d)) (first|exact KP1.out|go_keep) ((
  go_at_call 62
  refine C1.out.mono ?_
  rintro e w1 ⟨rfl,hb1⟩
  have hB1:Below (wi0 w a b c d p0 p1).heap.size (wi0 w a b c d p0 p1) w1:=⟨hb1.os,hb1.tape,hb1.output,hb1.size,hb1.block⟩
  have hw1:=HWI.out.below hB1
  have HB1:=hid (HB.out.trans (hB1.mono HB.out.size))
  obtain⟨z0,z1,z2,z3,z4,z5⟩:=hw1.cells
  have KP1:=hid (And.intro ((HB1.out.cell (p:=⟨bl,0,none⟩) hll).trans c0) (And.intro z0 (And.intro z1 (And.intro z2 z3))))
  have HW1:=hid hw1
  clear hb1 hB1 hw1 z0 z1 z2 z3 z4 z5))
 all_goals
  go_wp2_with (
   go_at_call 22;refine(Zaz 9 _).mono ?_;rintro e w2' ⟨rfl,hw2⟩;obtain⟨w2,hw2'⟩:∃ w2,w2'=w2:=⟨_,rfl⟩;have hb2:Below w1.heap.size w1 w2:=by rw[← hw2',hw2];exact Below.refl _ _
   have HB2:=hid (HB1.out.trans (hb2.mono HB1.out.size))
   have hw2x:=HW1.out.below hb2
   obtain⟨z0,z1,z2,z3,z4,z5⟩:=hw2x.cells
   have hpl:=Zc hw2x.p
   obtain⟨q0,q1,q2,q3,qf⟩:=(HD.out.below HB2.out).spanAt HX.out HSV.out
   have qf0:=qf (r*4)
   have qf1:=qf (r*4+1)
   have qf2:=qf (r*4+2)
   have qf3:=qf (r*4+3)
   have k1:=(HB2.out.cell (p:=⟨bl,1,none⟩) hll).trans c1
   rw[hw2']
   clear hb2 hw2x qf hw2 hw2')
  go_region
  go_wp2
  go_ret
  have hk:Zb F w w2:=Zb.of_below HB2.out
  have hFg:F g:=(HD.out.apart g (by rw[HSV.out];rfl)).1
  have hd:=((HD.out.below HB2.out).setAll HSV.out HX.out a b c d)
  exact⟨rfl,(((((hk.setCell (p:=⟨g,r*4,none⟩) (.inl hFg) _).setCell (p:=⟨g,r*4+1,none⟩) (.inl hFg) _).setCell (p:=⟨g,r*4+2,none⟩) (.inl hFg) _).setCell (p:=⟨g,r*4+3,none⟩) (.inl hFg) _).drew),(hd.below (Zj (Below.refl _ _) 1)).grown w⟩
end
end
section
open Go.RowKit
theorem Zk.widen {w:World} {F G:Nat→Prop} {bx bf bl:Nat} {sv:Value} {st:St} (h:Zk w F bx bf bl sv st) (hG:∀ b,F b→G b):Zk w G bx bf bl sv st :=
 ⟨hG _ h.Fx,h.Hx,h.doc,hG _ h.Fl,h.Hl,h.ne,h.list,h.spans,fun b e=>⟨hG _ (h.apart b e).1,(h.apart b e).2⟩,h.nodes.wider (fun b hb=>⟨hG _ hb.1,hb.2⟩)⟩
section
variable {w:World} {F:Nat→Prop} {bx bf bl:Nat} {sv:Value} {s:List Nd} {rs:List Sp}
theorem Zgt (hD:Zk w F bx bf bl sv ⟨s,rs⟩) (r p0 p1:Int) (h:r < 0∨(rs.length:Int)≤r) :
 Calls Tryz.prog 65 #[ptr bl,.int .i64 r,.agg #[.int .i64 p0,.int .i64 p1]] w fun e w'=>e=.returned (.iface 141 (.agg #[.int .i64 r]))∧Below w.heap.size w w':=by
 have C:=hid (fun W (hb:Below w.heap.size w W)=>J0 (hD.below hb) r h)
 have HB:=hid (show Below w.heap.size w (w.alloc (.cells #[.int .i64 p0,.int .i64 p1] 37)) from (Below.refl _ w).alloc (Nat.le_refl _) _)
 clear hD h
 go_enter Tryz.func65,Tryz.ntmps65
 go_wp2_with (
  go_at_call 69
  refine(C.out _ HB.out).mono ?_
  rintro e w1 ⟨rfl,hb1⟩
  have HB1:=hid (HB.out.trans (hb1.mono HB.out.size))
  clear hb1)
 go_ret
 exact⟨rfl,HB1.out.alloc HB1.out.size _⟩
theorem lend_no (hD:Zk w F bx bf bl sv ⟨s,rs⟩) (r p0 p1:Int) (h:r < 0∨(rs.length:Int)≤r) :
 Calls Tryz.prog 66 #[ptr bl,.int .i64 r,.agg #[.int .i64 p0,.int .i64 p1]] w fun e w'=>e=.returned (.iface 141 (.agg #[.int .i64 r]))∧Below w.heap.size w w':=by
 have C:=hid (fun W (hb:Below w.heap.size w W)=>J0 (hD.below hb) r h)
 have HB:=hid (show Below w.heap.size w (w.alloc (.cells #[.int .i64 p0,.int .i64 p1] 37)) from (Below.refl _ w).alloc (Nat.le_refl _) _)
 clear hD h
 go_enter Tryz.func66,Tryz.ntmps66
 go_wp2_with (
  go_at_call 69
  refine(C.out _ HB.out).mono ?_
  rintro e w1 ⟨rfl,hb1⟩
  have HB1:=hid (HB.out.trans (hb1.mono HB.out.size))
  clear hb1)
 go_ret
 exact⟨rfl,HB1.out.alloc HB1.out.size _⟩
theorem ZaE (hD:Zk w F bx bf bl sv ⟨s,rs⟩) (r:Nat) (x:Sp) (hx:rs[r]?=some x) (p0 p1:Int) (v:Value) (hv:v=.nilIface∨∃ t u,v=.iface t u) {Q:World→World→Prop}
 (hS:∀ W,Below w.heap.size w W→Calls Tryz.prog 111 #[ptr bl,.int .i64 (r:Int),spV ⟨p0,p1,x.c,x.d⟩,.agg #[.int .i64 p0,.int .i64 p1]] W fun e w'=>e=.returned v∧Q W w') :
 Calls Tryz.prog 65 #[ptr bl,.int .i64 (r:Int),.agg #[.int .i64 p0,.int .i64 p1]] w fun e w'=>e=.returned v∧∃ W,Below w.heap.size w W∧Q W w':=by
 have C:=hid (fun W (hb:Below w.heap.size w W)=>J1 (hD.below hb) r x hx)
 have HB:=hid (show Below w.heap.size w (w.alloc (.cells #[.int .i64 p0,.int .i64 p1] 37)) from (Below.refl _ w).alloc (Nat.le_refl _) _)
 have hp:=heap_alloc_new w (.cells #[.int .i64 p0,.int .i64 p1] 37)
 have HP:=hid hp
 have HS:=hid hS
 clear hD hS hp hx
 rcases hv with rfl|⟨t,u,rfl⟩
 all_goals
  go_enter Tryz.func65,Tryz.ntmps65
  go_wp2_with first
   | (go_at_call 69
      refine(C.out _ HB.out).mono ?_
      rintro e w1 ⟨rfl,hb1⟩
      have HB1:=hid ((HB.out.trans (hb1.mono HB.out.size)).alloc (HB.out.trans (hb1.mono HB.out.size)).size (.cells #[.int .i64 x.a,.int .i64 x.b,.int .i64 x.c,.int .i64 x.d] 79))
      have hp1:=(hb1.block _ (Zc HP.out)).trans HP.out
      have y0:=Za hp1 0
      have y1:=Za hp1 1
      have hpl:=Zc hp1
      clear hb1 hp1)
   | (go_at_call 111
      refine(HS.out _ HB1.out).mono ?_
      rintro e w2 ⟨rfl,hQ⟩
      have HQ:=hid hQ
      clear hQ)
  go_ret
  exact⟨rfl,_,HB1.out,HQ.out⟩
theorem ZaC (hD:Zk w F bx bf bl sv ⟨s,rs⟩) (r:Nat) (x:Sp) (hx:rs[r]?=some x) (p0 p1:Int) (v:Value) (hv:v=.nilIface∨∃ t u,v=.iface t u) {Q:World→World→Prop}
 (hS:∀ W,Below w.heap.size w W→Calls Tryz.prog 111 #[ptr bl,.int .i64 (r:Int),spV ⟨x.a,x.b,p0,p1⟩,.agg #[.int .i64 p0,.int .i64 p1]] W fun e w'=>e=.returned v∧Q W w') :
 Calls Tryz.prog 66 #[ptr bl,.int .i64 (r:Int),.agg #[.int .i64 p0,.int .i64 p1]] w fun e w'=>e=.returned v∧∃ W,Below w.heap.size w W∧Q W w':=by
 have C:=hid (fun W (hb:Below w.heap.size w W)=>J1 (hD.below hb) r x hx)
 have HB:=hid (show Below w.heap.size w (w.alloc (.cells #[.int .i64 p0,.int .i64 p1] 37)) from (Below.refl _ w).alloc (Nat.le_refl _) _)
 have hp:=heap_alloc_new w (.cells #[.int .i64 p0,.int .i64 p1] 37)
 have HP:=hid hp
 have HS:=hid hS
 clear hD hS hp hx
 rcases hv with rfl|⟨t,u,rfl⟩
 all_goals
  go_enter Tryz.func66,Tryz.ntmps66
  go_wp2_with first
   | (go_at_call 69
      refine(C.out _ HB.out).mono ?_
      rintro e w1 ⟨rfl,hb1⟩
      have HB1:=hid ((HB.out.trans (hb1.mono HB.out.size)).alloc (HB.out.trans (hb1.mono HB.out.size)).size (.cells #[.int .i64 x.a,.int .i64 x.b,.int .i64 x.c,.int .i64 x.d] 79))
      have hp1:=(hb1.block _ (Zc HP.out)).trans HP.out
      have y0:=Za hp1 0
      have y1:=Za hp1 1
      have hpl:=Zc hp1
      clear hb1 hp1)
   | (go_at_call 111
      refine(HS.out _ HB1.out).mono ?_
      rintro e w2 ⟨rfl,hQ⟩
      have HQ:=hid hQ
      clear hQ)
  go_ret
  exact⟨rfl,_,HB1.out,HQ.out⟩
end
theorem ZdL {w:World} {F:Nat→Prop} {bx:Nat} {s:List Nd} {rs:List Sp} (hg:GG w) (hP:Zv w F bx ⟨s,rs⟩) {t:TypeId} {u:Value} {a y:Int} (A p0 p1:Int) (hE:Z2 (.iface t u) a y)
 (hS:∀ W bf bl sv,Zk W F bx bf bl sv ⟨s,rs⟩→Calls Tryz.prog 65 #[ptr bl,.int .i64 A,.agg #[.int .i64 p0,.int .i64 p1]] W fun e w'=>e=.returned (.iface t u)∧Below W.heap.size W w') :
 Calls Tryz.prog 31 #[ptr bx,.int .i64 A,.agg #[.int .i64 p0,.int .i64 p1]] w (ZY F w bx ⟨s,rs⟩ (errV a y)):=by
 have HP:=hid hP
 obtain⟨bf,bl,sv,hD⟩:=hP
 have hB0:Below w.heap.size w (w.alloc (.cells #[.int .i64 p0,.int .i64 p1] 37)):=(Below.refl _ w).alloc (Nat.le_refl _) _
 have C:=hid (hS _ _ _ _ (hD.below hB0.drew))
 have HB0:=hid hB0
 have hxl:=Zc hD.doc
 have c1:w.cell? ⟨bx,1,none⟩=some (ptr bl):=Za hD.doc 1
 have E:=hid (fun w1 (hb:Below w.heap.size w w1)=>hE w1 (hg.below hb).1)
 clear hD hS hg hE hB0
 go_enter Tryz.func31,Tryz.ntmps31
 go_wp2
 go_region_with (first
  | (go_at_call 65;refine C.out.mono ?_;rintro e w1 ⟨rfl,hb1'⟩;have hb1:=HB0.out.drew.trans (hb1'.mono HB0.out.drew.size);have E1:=hid (E.out w1 hb1))
  | (go_at_call 46;refine E1.out.mono ?_;rintro e w2 ⟨rfl,hb2⟩))
 all_goals
  go_wp2
  go_ret
  exact⟨rfl,HP.out.after (hb1.trans (hb2.mono hb1.size))⟩
theorem ZbQ {w:World} {F:Nat→Prop} {bx:Nat} {s:List Nd} {rs rs':List Sp} (hP:Zv w F bx ⟨s,rs⟩) (A p0 p1:Int)
 (hS:∀ W bf bl sv,Zk W F bx bf bl sv ⟨s,rs⟩→Calls Tryz.prog 65 #[ptr bl,.int .i64 A,.agg #[.int .i64 p0,.int .i64 p1]] W fun e w'=>e=.returned .nilIface∧Zb F W w'∧Zk w' (grow F W) bx bf bl sv ⟨s,rs'⟩) :
 Calls Tryz.prog 31 #[ptr bx,.int .i64 A,.agg #[.int .i64 p0,.int .i64 p1]] w (ZY F w bx ⟨s,rs'⟩ (errV 0 0)):=by
 obtain⟨bf,bl,sv,hD⟩:=hP
 have hB0:Below w.heap.size w (w.alloc (.cells #[.int .i64 p0,.int .i64 p1] 37)):=(Below.refl _ w).alloc (Nat.le_refl _) _
 have C:=hid (hS _ _ _ _ (hD.below hB0.drew))
 have HB0:=hid hB0
 have hxl:=Zc hD.doc
 have c1:w.cell? ⟨bx,1,none⟩=some (ptr bl):=Za hD.doc 1
 clear hD hS hB0
 go_enter Tryz.func31,Tryz.ntmps31
 go_wp2
 go_region_with (first
  | (go_at_call 65;refine C.out.mono ?_;rintro e w1 ⟨rfl,hk1,hd1⟩;have H1:=hid (And.intro hk1 hd1);clear hk1 hd1)
  | (go_at_call 46;refine(JP _).mono ?_;rintro e w2 ⟨rfl,hb2⟩))
 all_goals
  go_wp2
  go_ret
  exact⟨by simp[errV,Act.put],((Zb.of_below HB0.out.drew).trans (H1.out.1.mono (fun b _ e=>.inl e))).trans (Zb.of_below hb2),_,_,_,(H1.out.2.widen (fun b h=>h.imp id (fun h=>Nat.le_trans HB0.out.size h))).below hb2⟩
theorem ZdD {w:World} {F:Nat→Prop} {bx:Nat} {s:List Nd} {rs:List Sp} (hg:GG w) (hP:Zv w F bx ⟨s,rs⟩) {t:TypeId} {u:Value} {a y:Int} (A p0 p1:Int) (hE:Z2 (.iface t u) a y)
 (hS:∀ W bf bl sv,Zk W F bx bf bl sv ⟨s,rs⟩→Calls Tryz.prog 66 #[ptr bl,.int .i64 A,.agg #[.int .i64 p0,.int .i64 p1]] W fun e w'=>e=.returned (.iface t u)∧Below W.heap.size W w') :
 Calls Tryz.prog 32 #[ptr bx,.int .i64 A,.agg #[.int .i64 p0,.int .i64 p1]] w (ZY F w bx ⟨s,rs⟩ (errV a y)):=by
 have HP:=hid hP
 obtain⟨bf,bl,sv,hD⟩:=hP
 have hB0:Below w.heap.size w (w.alloc (.cells #[.int .i64 p0,.int .i64 p1] 37)):=(Below.refl _ w).alloc (Nat.le_refl _) _
 have C:=hid (hS _ _ _ _ (hD.below hB0.drew))
 have HB0:=hid hB0
 have hxl:=Zc hD.doc
 have c1:w.cell? ⟨bx,1,none⟩=some (ptr bl):=Za hD.doc 1
 have E:=hid (fun w1 (hb:Below w.heap.size w w1)=>hE w1 (hg.below hb).1)
 clear hD hS hg hE hB0
 go_enter Tryz.func32,Tryz.ntmps32
 go_wp2
 go_region_with (first
  | (go_at_call 66;refine C.out.mono ?_;rintro e w1 ⟨rfl,hb1'⟩;have hb1:=HB0.out.drew.trans (hb1'.mono HB0.out.drew.size);have E1:=hid (E.out w1 hb1))
  | (go_at_call 46;refine E1.out.mono ?_;rintro e w2 ⟨rfl,hb2⟩))
 all_goals
  go_wp2
  go_ret
  exact⟨rfl,HP.out.after (hb1.trans (hb2.mono hb1.size))⟩
theorem ZbP {w:World} {F:Nat→Prop} {bx:Nat} {s:List Nd} {rs rs':List Sp} (hP:Zv w F bx ⟨s,rs⟩) (A p0 p1:Int)
 (hS:∀ W bf bl sv,Zk W F bx bf bl sv ⟨s,rs⟩→Calls Tryz.prog 66 #[ptr bl,.int .i64 A,.agg #[.int .i64 p0,.int .i64 p1]] W fun e w'=>e=.returned .nilIface∧Zb F W w'∧Zk w' (grow F W) bx bf bl sv ⟨s,rs'⟩) :
 Calls Tryz.prog 32 #[ptr bx,.int .i64 A,.agg #[.int .i64 p0,.int .i64 p1]] w (ZY F w bx ⟨s,rs'⟩ (errV 0 0)):=by
 obtain⟨bf,bl,sv,hD⟩:=hP
 have hB0:Below w.heap.size w (w.alloc (.cells #[.int .i64 p0,.int .i64 p1] 37)):=(Below.refl _ w).alloc (Nat.le_refl _) _
 have C:=hid (hS _ _ _ _ (hD.below hB0.drew))
 have HB0:=hid hB0
 have hxl:=Zc hD.doc
 have c1:w.cell? ⟨bx,1,none⟩=some (ptr bl):=Za hD.doc 1
 clear hD hS hB0
 go_enter Tryz.func32,Tryz.ntmps32
 go_wp2
 go_region_with (first
  | (go_at_call 66;refine C.out.mono ?_;rintro e w1 ⟨rfl,hk1,hd1⟩;have H1:=hid (And.intro hk1 hd1);clear hk1 hd1)
  | (go_at_call 46;refine(JP _).mono ?_;rintro e w2 ⟨rfl,hb2⟩))
 all_goals
  go_wp2
  go_ret
  exact⟨by simp[errV,Act.put],((Zb.of_below HB0.out.drew).trans (H1.out.1.mono (fun b _ e=>.inl e))).trans (Zb.of_below hb2),_,_,_,(H1.out.2.widen (fun b h=>h.imp id (fun h=>Nat.le_trans HB0.out.size h))).below hb2⟩
theorem ZdJ {w:World} {F:Nat→Prop} {bx:Nat} {s:List Nd} {rs:List Sp} (hg:GG w) (hP:Zv w F bx ⟨s,rs⟩) (r:Int) (x:Sp) (v:Value) (hv:v=.nilIface∨∃ t u,v=.iface t u) {a y:Int} (hE:Z2 v a y)
 (hS:∀ W bf bl sv,Zk W F bx bf bl sv ⟨s,rs⟩→Calls Tryz.prog 69 #[ptr bl,.int .i64 r] W fun e w'=>e=.returned (.tuple #[spV x,v])∧Below W.heap.size W w') :
 Calls Tryz.prog 36 #[ptr bx,.int .i64 r] w (ZY F w bx ⟨s,rs⟩ (.tuple #[spV x,errV a y])):=by
 have HP:=hid hP
 obtain⟨bf,bl,sv,hD⟩:=hP
 have hB0:Below w.heap.size w (w.alloc (.cells #[.int .i64 0,.int .i64 0,.int .i64 0,.int .i64 0] 79)):=(Below.refl _ w).alloc (Nat.le_refl _) _
 have C:=hid (hS _ _ _ _ (hD.below hB0))
 have HB0:=hid hB0
 have c1:w.cell? ⟨bx,1,none⟩=some (ptr bl):=Za hD.doc 1
 have hxl:=Zc hD.doc
 have hz0:=heap_alloc_new w (.cells #[.int .i64 0,.int .i64 0,.int .i64 0,.int .i64 0] 79)
 have HZ0:=hid hz0
 have E:=hid (fun w1 (hb:Below w.heap.size w w1)=>hE w1 (hg.below hb).1)
 clear hD hS hg hE hB0 hz0
 rcases hv with rfl|⟨t,u,rfl⟩
 all_goals
  go_enter Tryz.func36,Tryz.ntmps36
  go_wp2_with (
   go_at_call 69;refine C.out.mono ?_;rintro e w1 ⟨rfl,hb1⟩
   have hB1:=HB0.out.trans (hb1.mono HB0.out.size)
   have hz1:=(hb1.block _ (Zc HZ0.out)).trans HZ0.out
   have hl1:=Zc hz1
   have hB2:=hB1.alloc hB1.size (.cells #[.int .i64 x.a,.int .i64 x.b,.int .i64 x.c,.int .i64 x.d] 79)
   have HB2:=hid hB2
   have HZ1:=hid hz1
   have HS1:=hid (heap_alloc_new w1 (.cells #[.int .i64 x.a,.int .i64 x.b,.int .i64 x.c,.int .i64 x.d] 79))
   have E1:=hid (fun w2 (hb:Below w.heap.size w w2)=>E.out w2 hb)
   clear hb1 hB1 hB2 hz1)
  go_region_held3 (fun w'=>w'.cell? ⟨w1.heap.size,0,none⟩=some (.int .i64 x.a)∧w'.cell? ⟨w1.heap.size,1,none⟩=some (.int .i64 x.b)∧w'.cell? ⟨w1.heap.size,2,none⟩=some (.int .i64 x.c)∧w'.cell? ⟨w1.heap.size,3,none⟩=some (.int .i64 x.d)) (first|exact KP2.out|exact KP1.out|go_keep) ((
   go_at_call 46
   refine(E1.out _ HB2.out.drew).mono ?_
   rintro e w2 ⟨rfl,hb2'⟩
   have hb2:Below (w1.alloc (.cells #[.int .i64 x.a,.int .i64 x.b,.int .i64 x.c,.int .i64 x.d] 79)).heap.size (w1.alloc (.cells #[.int .i64 x.a,.int .i64 x.b,.int .i64 x.c,.int .i64 x.d] 79)) w2:=⟨hb2'.os,hb2'.tape,hb2'.output,hb2'.size,hb2'.block⟩
   have hz2:=(hb2.block w.heap.size (by simp;omega)).trans ((Below.heap_alloc _ _ _ hl1).trans HZ1.out)
   have hs2:=(hb2.block w1.heap.size (by simp)).trans HS1.out
   have ka0:=Za hz2 0
   have ka1:=Za hz2 1
   have ka2:=Za hz2 2
   have ka3:=Za hz2 3
   have kf0:=Zd hz2 0
   have kf1:=Zd hz2 1
   have kf2:=Zd hz2 2
   have kf3:=Zd hz2 3
   have KP1:=hid (And.intro (show w2.cell? ⟨w1.heap.size,0,none⟩=some (.int .i64 x.a) from Za hs2 0) (And.intro (show w2.cell? ⟨w1.heap.size,1,none⟩=some (.int .i64 x.b) from Za hs2 1) (And.intro (show w2.cell? ⟨w1.heap.size,2,none⟩=some (.int .i64 x.c) from Za hs2 2) (show w2.cell? ⟨w1.heap.size,3,none⟩=some (.int .i64 x.d) from Za hs2 3))))
   have hk:=((((Zb.refl (fun b=>b=w.heap.size) w2).setCell (p:=⟨w.heap.size,0,none⟩) (.inl rfl) (.int .i64 x.a)).setCell (p:=⟨w.heap.size,1,none⟩) (.inl rfl) (.int .i64 x.b)).setCell (p:=⟨w.heap.size,2,none⟩) (.inl rfl) (.int .i64 x.c)).setCell (p:=⟨w.heap.size,3,none⟩) (.inl rfl) (.int .i64 x.d)
   have hne:¬ w1.heap.size=w.heap.size:=by omega
   have KP2:=hid (And.intro (hk.cell KP1.out.1 hne) (And.intro (hk.cell KP1.out.2.1 hne) (And.intro (hk.cell KP1.out.2.2.1 hne) (hk.cell KP1.out.2.2.2 hne))))
   have hl2:=Zc hz2
   have HB3:=hid (HB2.out.trans (hb2.mono HB2.out.size))
   clear hb2 hb2' hz2 hs2 hk))
  all_goals
   go_wp2
   refine bodyPost_ret (v:=.tuple #[spV x,errV a y]) (by simp[results,Tryz.results36,go_sem,ka0,ka1,ka2,ka3,kf0,kf1,kf2,kf3,hl2]) rfl ?_
   refine⟨rfl,HP.out.after ((((HB3.out.setCell (p:=⟨w.heap.size,0,none⟩) (Nat.le_refl _) _).setCell (p:=⟨w.heap.size,1,none⟩) (Nat.le_refl _) _).setCell (p:=⟨w.heap.size,2,none⟩) (Nat.le_refl _) _).setCell (p:=⟨w.heap.size,3,none⟩) (Nat.le_refl _) _)⟩
end
section
open Go.RowKit Go.Lib
theorem Zi1 {V:List Nd→Sp→Prop} (hV:Yq V) (s:List Nd) (wf:WF s) (rs:List Sp) (h6:rs.length≤6) (hrs:∀ z∈rs,V s z):∃ n:Int,Ans (Z7 V) GG ⟨s,rs⟩ 56 81 [] (fun v=>.tuple #[.int .i64 n,v]) (fun v=>.tuple #[.int .i64 n,v]):=by
 by_cases h:rs.length<6
 · refine⟨rs.length,0,0,⟨s,rs++[⟨0,0,0,0⟩]⟩,⟨wf,by simp;omega,fun z hz=>?_⟩,?_,?_⟩
   · rcases List.mem_append.1 hz with hz|hz
     · exact hrs z hz
     · simp at hz
       rw[hz]
       exact hV.fresh wf
   · intro w F bx hg hP
     exact ZgF hg hP h
   · rintro w F bd ⟨bn,cap,rn,rv,hD⟩
     exact(ZhG hD h).mono fun e w' h=>h
 · refine⟨0,0,7,⟨s,rs⟩,⟨wf,h6,hrs⟩,?_,?_⟩
   · intro w F bx hg hP
     exact ZgE hg hP (by omega)
   · intro w F bd hR
     have hR':=hR
     obtain⟨bn,cap,rn,rv,hD⟩:=hR
     exact(ZhF hD (show 6≤rs.length by omega)).mono fun e w' ⟨h1,h2⟩=>hR'.unchangedR h2 h1
theorem Zi6 {V:List Nd→Sp→Prop} (hV:Yq V) (s:List Nd) (wf:WF s) (rs:List Sp) (h6:rs.length≤6) (hrs:∀ z∈rs,V s z) (A:Int):∃ a0 a1 b0 b1:Int,Ans (Z7 V) GG ⟨s,rs⟩ 36 84 [.int .i64 A] (fun v=>.tuple #[.agg #[.int .i64 a0,.int .i64 a1,.int .i64 b0,.int .i64 b1],v]) (fun v=>.tuple #[.agg #[.int .i64 a0,.int .i64 a1,.int .i64 b0,.int .i64 b1],v]):=by
 by_cases hA:A<0∨(rs.length:Int)≤A
 · refine⟨0,0,0,0,A,8,⟨s,rs⟩,⟨wf,h6,hrs⟩,?_,?_⟩
   · intro w F bx hg hP
     exact ZdJ hg hP A ⟨0,0,0,0⟩ _ (.inr ⟨_,_,rfl⟩) (JL A) (fun W bf bl sv h=>J0 h A hA)
   · intro w F bd hR
     have hR':=hR
     obtain⟨bn,cap,rn,rv,hD⟩:=hR
     exact(rspan_no hD A hA).mono fun e w' ⟨h1,h2⟩=>hR'.unchangedR h2 h1
 · obtain⟨r,rfl⟩:∃ r:Nat,A=(r:Int):=⟨A.toNat,by omega⟩
   obtain⟨x,hx⟩:∃ x,rs[r]?=some x:=⟨_,List.getElem?_eq_getElem (by omega)⟩
   refine⟨x.a,x.b,x.c,x.d,0,0,⟨s,rs⟩,⟨wf,h6,hrs⟩,?_,?_⟩
   · intro w F bx hg hP
     exact ZdJ hg hP r x _ (.inl rfl) (X7 0) (fun W bf bl sv h=>J1 h r x hx)
   · intro w F bd hR
     have hR':=hR
     obtain⟨bn,cap,rn,rv,hD⟩:=hR
     exact(rspan_ok hD r x hx).mono fun e w' ⟨h1,h2⟩=>hR'.unchangedR h2 h1
theorem ZdT {s:List Nd} (wf:WF s) (n k a y:Int) (hf:Zs s n k=(a,y)) (hy:y≠0) :
 ∃ u,Z2 (.iface 145 u) a y∧(∀ W,Calls Tryz.prog 22 #[.iface 145 u,.iface 30 (.int .i64 9)] W fun e w'=>e=.returned (.bool false)∧Below W.heap.size W w')∧∀ (W:World) (F:Nat→Prop) (bf bn cap:Nat) (pn:List PN),Zh W F bf bn cap pn s→Calls Tryz.prog 98 #[ptr bf,.agg #[.int .i64 n,.int .i64 k]] W fun e w'=>e=.returned (.iface 145 u)∧Below W.heap.size W w':=by
 cases hb:isB s n with
 | false =>
   have e:Zs s n k=(n,1):=by simp[Zs,hb]
   rw[e] at hf
   cases hf
   exact⟨_,Yi n 1 (by decide),fun W=>Zdn n 1 9 (fun w=>by kernel_rfl) W,fun W F bf bn cap pn h=>ZdV h n k hb⟩
 | true =>
   obtain⟨h1,h2⟩:=Y2 hb
   obtain⟨m,rfl⟩:∃ m:Nat,n=(m:Int):=⟨n.toNat,by omega⟩
   have hm:m<s.length:=by omega
   obtain⟨x,hx⟩:∃ x,s[m]?=some x:=⟨_,List.getElem?_eq_getElem hm⟩
   have hch:=wf.chars m x hx
   by_cases hk:k<0∨(ZI x:Int)<k
   · have e:Zs s m k=((m:Int),3):=by simp[Zs,hb,ZE hx,hk]
     rw[e] at hf
     cases hf
     cases ht:x.t with
     | true =>
       rw[Yl ht] at hk
       exact⟨_,JM m k,fun W=>Zgb m k W,fun W F bf bn cap pn h=>ZdX h m k x hx ht hch.2 (by unfold lots;omega) hk⟩
     | false =>
       rw[Yg ht] at hk
       exact⟨_,Yi m 3 (by decide),fun W=>Zdn m 3 9 (fun w=>by kernel_rfl) W,fun W F bf bn cap pn h=>ZdU h m k x hx ht hk⟩
   · have e:Zs s m k=(0,0):=by simp[Zs,hb,ZE hx,hk]
     rw[e] at hf
     cases hf
     exact absurd rfl hy
theorem Zi8 {V:List Nd→Sp→Prop} (hV:Yq V) (s:List Nd) (wf:WF s) (rs:List Sp) (h6:rs.length≤6) (hrs:∀ z∈rs,V s z) (A p0 p1:Int):Ans (Z7 V) GG ⟨s,rs⟩ 31 82 [.int .i64 A,.agg #[.int .i64 p0,.int .i64 p1]] (fun v=>v) (fun v=>v):=by
 by_cases hA:A<0∨(rs.length:Int)≤A
 · refine⟨A,8,⟨s,rs⟩,⟨wf,h6,hrs⟩,?_,?_⟩
   · intro w F bx hg hP
     exact ZdL hg hP A p0 p1 (JL A) (fun W bf bl sv h=>Zgt h A p0 p1 hA)
   · intro w F bd hR
     have hR':=hR
     obtain⟨bn,cap,rn,rv,hD⟩:=hR
     exact(Zeb A p0 p1 A 8 (fun W hb=>Zd9 (hD.below hb) A p0 p1 _ hA)).mono fun e w' ⟨h1,h2⟩=>hR'.unchangedR h2 h1
 · obtain⟨r,rfl⟩:∃ r:Nat,A=(r:Int):=⟨A.toNat,by omega⟩
   have hr:r<rs.length:=by omega
   obtain⟨x,hx⟩:∃ x,rs[r]?=some x:=⟨_,List.getElem?_eq_getElem hr⟩
   have hpx:=(hV.place (hrs x (List.mem_of_getElem? hx))).2
   have hfx:=ZdR hpx
   obtain⟨n2,k2,hxa,hxb,hn2,hk2,hg0,PB⟩:=Jh wf x.c x.d 0 0 hfx rfl
   obtain⟨f0,f1,hf⟩:∃ a y,Zs s p0 p1=(a,y):=⟨_,_,rfl⟩
   by_cases h1:f1=0
   · obtain⟨n,k,rfl,rfl,hn,hk,hf0,PA⟩:=Jh wf p0 p1 f0 f1 hf h1
     have htf:∀ m,∃ t,m<s.length→Zm s m t:=fun m=>by
      by_cases hm:m<s.length
      · obtain⟨t,ht⟩:=XB wf m hm;exact⟨t,fun _=>ht⟩
      · exact⟨0,fun h=>absurd h hm⟩
     obtain⟨tf,htf⟩:=Classical.axiomOfChoice htf
     obtain⟨h,B,u⟩:=wf.up
     have hone:∀ z∈rs.set r ⟨(n:Int),(k:Int),(n:Int),(k:Int)⟩,V s z:=fun z hz=>by
      rcases List.mem_or_eq_of_mem_set hz with hz|hz
      · exact hrs z hz
      · rw[hz];exact hV.one wf ⟨n,k,rfl,rfl,hn,hk⟩
     by_cases he:tf n=tf n2
     · obtain⟨qa,ha⟩:=Jq (plF s (B+1) (tf n2)) (n2,k2)
       obtain⟨qb,hb⟩:=Jq (plF s (B+1) (tf n2)) (n,k)
       have key:∀ (l l2:List Nat),Way s (tf n) n l→Way s (tf n) n2 l2→lexC (l++[k]) (l2++[k2])=if qb<qa then -1 else if qa<qb then 1 else 0:=fun l l2 wa wb =>
        XM wf u wa wb (by first|exact hk|exact hk2) (by first|exact hk|exact hk2) (by rw[he];exact hb) (by rw[he];exact ha)
       by_cases hlt:qa<qb
       · refine⟨0,0,⟨s,rs.set r ⟨(n:Int),(k:Int),(n:Int),(k:Int)⟩⟩,⟨wf,by simpa using h6,hone⟩,?_,?_⟩
         · intro w F bx hg hP
           refine ZbQ hP r n k (fun W bf bl sv hD=>?_)
           refine(ZaE hD r x hx n k .nilIface (.inl rfl) (Q:=fun W0 w'=>Zb F W0 w'∧Zk w' (grow F W0) bx bf bl sv ⟨s,rs.set r ⟨n,k,n,k⟩⟩) (fun W0 hb0=>?_)).mono ?_
           · refine Zdx (hD.below hb0) r x hx _ _ _ _ n k 1 (by decide) (fun W1 hb1=>?_)
             have hfor:=((hD.below hb0).below hb1).nodes
             have hf':=hfor
             obtain⟨bn,cap,pn,h⟩:=hfor
             rw[hxa,hxb]
             refine(J7 wf hf' n k n2 k2 tf htf hn hn2 he (fun W hb=>PA W _ bf bn cap pn (h.below hb)) (fun W hb=>PB W _ bf bn cap pn (h.below hb))).mono ?_
             rintro e w' ⟨l,l2,wa,wb,rfl,hbl⟩
             refine⟨?_,hbl⟩
             rw[key l l2 wa wb,if_neg (by omega),if_pos hlt]
           · rintro e w' ⟨rfl,W0,hb0,hk0,hd0⟩
             exact⟨rfl,(Zb.of_below hb0).trans (hk0.mono (fun b _ e=>.inl e)),hd0.widen (fun b h=>h.imp id (fun h=>Nat.le_trans hb0.size h))⟩
         · intro w F bd hR
           exact(Zb5 hR r n k (fun W G ⟨bn,cap,rn,rv,hD⟩=>rset_t2 wf u hD r x hx n k n2 k2 hxa hxb tf htf hn hn2 hf0 he qa qb ha hb (decide_eq_true hlt))).mono fun e w' h=>h
       · refine⟨0,0,⟨s,rs.set r ⟨n,k,n2,k2⟩⟩,⟨wf,by simpa using h6,fun z hz=>?_⟩,?_,?_⟩
         · rcases List.mem_or_eq_of_mem_set hz with hz|hz
           · exact hrs z hz
           · rw[hz]
             have hstart:PlOk s (n:Int) (k:Int):=⟨n,k,rfl,rfl,by first|exact hn|exact hn2,by first|exact hk|exact hk2⟩
             have hend:PlOk s (n2:Int) (k2:Int):=⟨n2,k2,rfl,rfl,by first|exact hn|exact hn2,by first|exact hk|exact hk2⟩
             have ts:=htf n (by first|exact hn|exact hn2)
             have te:=htf n2 (by first|exact hn|exact hn2)
             rw[← he] at te
             obtain⟨l,wl⟩:=Za7 wf ts (by first|exact hn|exact hn2)
             obtain⟨l2,wl2⟩:=Za7 wf te (by first|exact hn|exact hn2)
             refine hV.two wf hstart hend ts wl wl2 ?_
             rw[key l l2 wl wl2]
             split
             · decide
             · first | decide|(rw[if_neg hlt];decide)
         · intro w F bx hg hP
           refine ZbQ hP r n k (fun W bf bl sv hD=>?_)
           refine(ZaE hD r x hx n k .nilIface (.inl rfl) (Q:=fun W0 w'=>Zb F W0 w'∧Zk w' (grow F W0) bx bf bl sv ⟨s,rs.set r ⟨n,k,n2,k2⟩⟩) (fun W0 hb0=>?_)).mono ?_
           · have hcm:=Zdy (hD.below hb0) r x hx (n:Int) (k:Int) x.c x.d n k (if qb<qa then -1 else 0) (by split <;> decide) (fun W1 hb1=>?_)
             · refine hcm.mono ?_
               rintro e w' ⟨rfl,hk0,hd0⟩
               rw[hxa,hxb] at hd0
               exact⟨rfl,hk0,hd0⟩
             have hfor:=((hD.below hb0).below hb1).nodes
             have hf':=hfor
             obtain⟨bn,cap,pn,h⟩:=hfor
             rw[hxa,hxb]
             refine(J7 wf hf' n k n2 k2 tf htf hn hn2 he (fun W hb=>PA W _ bf bn cap pn (h.below hb)) (fun W hb=>PB W _ bf bn cap pn (h.below hb))).mono ?_
             rintro e w' ⟨l,l2,wa,wb,rfl,hbl⟩
             refine⟨?_,hbl⟩
             rw[key l l2 wa wb,if_neg hlt]
           · rintro e w' ⟨rfl,W0,hb0,hk0,hd0⟩
             exact⟨rfl,(Zb.of_below hb0).trans (hk0.mono (fun b _ e=>.inl e)),hd0.widen (fun b h=>h.imp id (fun h=>Nat.le_trans hb0.size h))⟩
         · intro w F bd hR
           exact(Zb5 hR r n k (fun W G ⟨bn,cap,rn,rv,hD⟩=>rset_t3 wf u hD r x hx n k n2 k2 hxa hxb tf htf hn hn2 hf0 he qa qb ha hb (decide_eq_false hlt))).mono fun e w' h=>h
     · refine⟨0,0,⟨s,rs.set r ⟨(n:Int),(k:Int),(n:Int),(k:Int)⟩⟩,⟨wf,by simpa using h6,hone⟩,?_,?_⟩
       · intro w F bx hg hP
         refine ZbQ hP r n k (fun W bf bl sv hD=>?_)
         refine(ZaE hD r x hx n k .nilIface (.inl rfl) (Q:=fun W0 w'=>Zb F W0 w'∧Zk w' (grow F W0) bx bf bl sv ⟨s,rs.set r ⟨n,k,n,k⟩⟩) (fun W0 hb0=>?_)).mono ?_
         · refine ZdA (hD.below hb0) r x hx _ _ _ _ n k n2 (fun W1 hb1=>?_)
           have hfor:=((hD.below hb0).below hb1).nodes
           have hf':=hfor
           obtain⟨bn,cap,pn,h⟩:=hfor
           rw[hxa,hxb]
           exact Zcb wf hf' n k n2 k2 tf htf hn hn2 he (fun W hb=>PA W _ bf bn cap pn (h.below hb)) (fun W hb=>PB W _ bf bn cap pn (h.below hb))
         · rintro e w' ⟨rfl,W0,hb0,hk0,hd0⟩
           exact⟨rfl,(Zb.of_below hb0).trans (hk0.mono (fun b _ e=>.inl e)),hd0.widen (fun b h=>h.imp id (fun h=>Nat.le_trans hb0.size h))⟩
       · intro w F bd hR
         exact(Zb5 hR r n k (fun W G ⟨bn,cap,rn,rv,hD⟩=>rset_t1 wf u hD r x hx n k n2 k2 hxa hxb tf htf hn hn2 hf0 he)).mono fun e w' h=>h
   · obtain⟨u,hE,hI,PA⟩:=ZdT wf p0 p1 f0 f1 hf h1
     refine⟨f0,f1,⟨s,rs⟩,⟨wf,h6,hrs⟩,?_,?_⟩
     · intro w F bx hg hP
       refine ZdL hg hP r p0 p1 hE (fun W bf bl sv hD=>?_)
       refine(ZaE hD r x hx p0 p1 (.iface 145 u) (.inr ⟨_,_,rfl⟩) (Q:=fun W0 w'=>Below W0.heap.size W0 w') (fun W0 hb0=>?_)).mono ?_
       · refine Zdz (hD.below hb0) r x hx _ _ _ _ p0 p1 u (fun W1 hb1=>?_) hI
         have hfor:=((hD.below hb0).below hb1).nodes
         obtain⟨bn,cap,pn,hf'⟩:=hfor
         exact(Zeo bf p0 p1 x.c x.d u (fun W hb=>PA W _ bf bn cap pn (hf'.below hb)))
       · rintro e w' ⟨rfl,W0,hb0,hk0⟩
         exact⟨rfl,hb0.trans (hk0.mono hb0.size)⟩
     · intro w F bd hR
       have hR':=hR
       obtain⟨bn,cap,rn,rv,hD⟩:=hR
       exact(Zeb r p0 p1 f0 f1 (fun W hb=>Zea (hD.below hb) r hr p0 p1 f0 f1 _ hf h1)).mono fun e w' ⟨h1,h2⟩=>hR'.unchangedR h2 h1
theorem ZiZ {V:List Nd→Sp→Prop} (hV:Yq V) (s:List Nd) (wf:WF s) (rs:List Sp) (h6:rs.length≤6) (hrs:∀ z∈rs,V s z) (A p0 p1:Int):Ans (Z7 V) GG ⟨s,rs⟩ 32 83 [.int .i64 A,.agg #[.int .i64 p0,.int .i64 p1]] (fun v=>v) (fun v=>v):=by
 by_cases hA:A<0∨(rs.length:Int)≤A
 · refine⟨A,8,⟨s,rs⟩,⟨wf,h6,hrs⟩,?_,?_⟩
   · intro w F bx hg hP
     exact ZdD hg hP A p0 p1 (JL A) (fun W bf bl sv h=>lend_no h A p0 p1 hA)
   · intro w F bd hR
     have hR':=hR
     obtain⟨bn,cap,rn,rv,hD⟩:=hR
     exact(Zd4 A p0 p1 A 8 (fun W hb=>Zd9 (hD.below hb) A p0 p1 _ hA)).mono fun e w' ⟨h1,h2⟩=>hR'.unchangedR h2 h1
 · obtain⟨r,rfl⟩:∃ r:Nat,A=(r:Int):=⟨A.toNat,by omega⟩
   have hr:r<rs.length:=by omega
   obtain⟨x,hx⟩:∃ x,rs[r]?=some x:=⟨_,List.getElem?_eq_getElem hr⟩
   have hpx:=(hV.place (hrs x (List.mem_of_getElem? hx))).1
   have hfx:=ZdR hpx
   obtain⟨n2,k2,hxa,hxb,hn2,hk2,hg0,PB⟩:=Jh wf x.a x.b 0 0 hfx rfl
   obtain⟨f0,f1,hf⟩:∃ a y,Zs s p0 p1=(a,y):=⟨_,_,rfl⟩
   by_cases h1:f1=0
   · obtain⟨n,k,rfl,rfl,hn,hk,hf0,PA⟩:=Jh wf p0 p1 f0 f1 hf h1
     have htf:∀ m,∃ t,m<s.length→Zm s m t:=fun m=>by
      by_cases hm:m<s.length
      · obtain⟨t,ht⟩:=XB wf m hm;exact⟨t,fun _=>ht⟩
      · exact⟨0,fun h=>absurd h hm⟩
     obtain⟨tf,htf⟩:=Classical.axiomOfChoice htf
     obtain⟨h,B,u⟩:=wf.up
     have hone:∀ z∈rs.set r ⟨(n:Int),(k:Int),(n:Int),(k:Int)⟩,V s z:=fun z hz=>by
      rcases List.mem_or_eq_of_mem_set hz with hz|hz
      · exact hrs z hz
      · rw[hz];exact hV.one wf ⟨n,k,rfl,rfl,hn,hk⟩
     by_cases he:tf n2=tf n
     · obtain⟨qa,ha⟩:=Jq (plF s (B+1) (tf n)) (n,k)
       obtain⟨qb,hb⟩:=Jq (plF s (B+1) (tf n)) (n2,k2)
       have key:∀ (l l2:List Nat),Way s (tf n2) n2 l→Way s (tf n2) n l2→lexC (l++[k2]) (l2++[k])=if qb<qa then -1 else if qa<qb then 1 else 0:=fun l l2 wa wb =>
        XM wf u wa wb (by first|exact hk|exact hk2) (by first|exact hk|exact hk2) (by rw[he];exact hb) (by rw[he];exact ha)
       by_cases hlt:qa<qb
       · refine⟨0,0,⟨s,rs.set r ⟨(n:Int),(k:Int),(n:Int),(k:Int)⟩⟩,⟨wf,by simpa using h6,hone⟩,?_,?_⟩
         · intro w F bx hg hP
           refine ZbP hP r n k (fun W bf bl sv hD=>?_)
           refine(ZaC hD r x hx n k .nilIface (.inl rfl) (Q:=fun W0 w'=>Zb F W0 w'∧Zk w' (grow F W0) bx bf bl sv ⟨s,rs.set r ⟨n,k,n,k⟩⟩) (fun W0 hb0=>?_)).mono ?_
           · refine Zdx (hD.below hb0) r x hx _ _ _ _ n k 1 (by decide) (fun W1 hb1=>?_)
             have hfor:=((hD.below hb0).below hb1).nodes
             have hf':=hfor
             obtain⟨bn,cap,pn,h⟩:=hfor
             rw[hxa,hxb]
             refine(J7 wf hf' n2 k2 n k tf htf hn2 hn he (fun W hb=>PB W _ bf bn cap pn (h.below hb)) (fun W hb=>PA W _ bf bn cap pn (h.below hb))).mono ?_
             rintro e w' ⟨l,l2,wa,wb,rfl,hbl⟩
             refine⟨?_,hbl⟩
             rw[key l l2 wa wb,if_neg (by omega),if_pos hlt]
           · rintro e w' ⟨rfl,W0,hb0,hk0,hd0⟩
             exact⟨rfl,(Zb.of_below hb0).trans (hk0.mono (fun b _ e=>.inl e)),hd0.widen (fun b h=>h.imp id (fun h=>Nat.le_trans hb0.size h))⟩
         · intro w F bd hR
           exact(ZbZ hR r n k (fun W G ⟨bn,cap,rn,rv,hD⟩=>rset_e2 wf u hD r x hx n k n2 k2 hxa hxb tf htf hn hn2 hf0 he qa qb ha hb (decide_eq_true hlt))).mono fun e w' h=>h
       · refine⟨0,0,⟨s,rs.set r ⟨n2,k2,n,k⟩⟩,⟨wf,by simpa using h6,fun z hz=>?_⟩,?_,?_⟩
         · rcases List.mem_or_eq_of_mem_set hz with hz|hz
           · exact hrs z hz
           · rw[hz]
             have hstart:PlOk s (n2:Int) (k2:Int):=⟨n2,k2,rfl,rfl,by first|exact hn|exact hn2,by first|exact hk|exact hk2⟩
             have hend:PlOk s (n:Int) (k:Int):=⟨n,k,rfl,rfl,by first|exact hn|exact hn2,by first|exact hk|exact hk2⟩
             have ts:=htf n2 (by first|exact hn|exact hn2)
             have te:=htf n (by first|exact hn|exact hn2)
             rw[← he] at te
             obtain⟨l,wl⟩:=Za7 wf ts (by first|exact hn|exact hn2)
             obtain⟨l2,wl2⟩:=Za7 wf te (by first|exact hn|exact hn2)
             refine hV.two wf hstart hend ts wl wl2 ?_
             rw[key l l2 wl wl2]
             split
             · decide
             · first | decide|(rw[if_neg hlt];decide)
         · intro w F bx hg hP
           refine ZbP hP r n k (fun W bf bl sv hD=>?_)
           refine(ZaC hD r x hx n k .nilIface (.inl rfl) (Q:=fun W0 w'=>Zb F W0 w'∧Zk w' (grow F W0) bx bf bl sv ⟨s,rs.set r ⟨n2,k2,n,k⟩⟩) (fun W0 hb0=>?_)).mono ?_
           · have hcm:=Zdy (hD.below hb0) r x hx x.a x.b (n:Int) (k:Int) n k (if qb<qa then -1 else 0) (by split <;> decide) (fun W1 hb1=>?_)
             · refine hcm.mono ?_
               rintro e w' ⟨rfl,hk0,hd0⟩
               rw[hxa,hxb] at hd0
               exact⟨rfl,hk0,hd0⟩
             have hfor:=((hD.below hb0).below hb1).nodes
             have hf':=hfor
             obtain⟨bn,cap,pn,h⟩:=hfor
             rw[hxa,hxb]
             refine(J7 wf hf' n2 k2 n k tf htf hn2 hn he (fun W hb=>PB W _ bf bn cap pn (h.below hb)) (fun W hb=>PA W _ bf bn cap pn (h.below hb))).mono ?_
             rintro e w' ⟨l,l2,wa,wb,rfl,hbl⟩
             refine⟨?_,hbl⟩
             rw[key l l2 wa wb,if_neg hlt]
           · rintro e w' ⟨rfl,W0,hb0,hk0,hd0⟩
             exact⟨rfl,(Zb.of_below hb0).trans (hk0.mono (fun b _ e=>.inl e)),hd0.widen (fun b h=>h.imp id (fun h=>Nat.le_trans hb0.size h))⟩
         · intro w F bd hR
           exact(ZbZ hR r n k (fun W G ⟨bn,cap,rn,rv,hD⟩=>rset_e3 wf u hD r x hx n k n2 k2 hxa hxb tf htf hn hn2 hf0 he qa qb ha hb (decide_eq_false hlt))).mono fun e w' h=>h
     · refine⟨0,0,⟨s,rs.set r ⟨(n:Int),(k:Int),(n:Int),(k:Int)⟩⟩,⟨wf,by simpa using h6,hone⟩,?_,?_⟩
       · intro w F bx hg hP
         refine ZbP hP r n k (fun W bf bl sv hD=>?_)
         refine(ZaC hD r x hx n k .nilIface (.inl rfl) (Q:=fun W0 w'=>Zb F W0 w'∧Zk w' (grow F W0) bx bf bl sv ⟨s,rs.set r ⟨n,k,n,k⟩⟩) (fun W0 hb0=>?_)).mono ?_
         · refine ZdA (hD.below hb0) r x hx _ _ _ _ n k n (fun W1 hb1=>?_)
           have hfor:=((hD.below hb0).below hb1).nodes
           have hf':=hfor
           obtain⟨bn,cap,pn,h⟩:=hfor
           rw[hxa,hxb]
           exact Zcb wf hf' n2 k2 n k tf htf hn2 hn he (fun W hb=>PB W _ bf bn cap pn (h.below hb)) (fun W hb=>PA W _ bf bn cap pn (h.below hb))
         · rintro e w' ⟨rfl,W0,hb0,hk0,hd0⟩
           exact⟨rfl,(Zb.of_below hb0).trans (hk0.mono (fun b _ e=>.inl e)),hd0.widen (fun b h=>h.imp id (fun h=>Nat.le_trans hb0.size h))⟩
       · intro w F bd hR
         exact(ZbZ hR r n k (fun W G ⟨bn,cap,rn,rv,hD⟩=>rset_e1 wf u hD r x hx n k n2 k2 hxa hxb tf htf hn hn2 hf0 he)).mono fun e w' h=>h
   · obtain⟨u,hE,hI,PA⟩:=ZdT wf p0 p1 f0 f1 hf h1
     refine⟨f0,f1,⟨s,rs⟩,⟨wf,h6,hrs⟩,?_,?_⟩
     · intro w F bx hg hP
       refine ZdD hg hP r p0 p1 hE (fun W bf bl sv hD=>?_)
       refine(ZaC hD r x hx p0 p1 (.iface 145 u) (.inr ⟨_,_,rfl⟩) (Q:=fun W0 w'=>Below W0.heap.size W0 w') (fun W0 hb0=>?_)).mono ?_
       · refine Zdz (hD.below hb0) r x hx _ _ _ _ p0 p1 u (fun W1 hb1=>?_) hI
         have hfor:=((hD.below hb0).below hb1).nodes
         obtain⟨bn,cap,pn,hf'⟩:=hfor
         exact(Zep bf x.a x.b p0 p1 u (fun W hb=>by rw[hxa,hxb];exact PB W _ bf bn cap pn (hf'.below hb)) (fun W hb=>PA W _ bf bn cap pn (hf'.below hb)))
       · rintro e w' ⟨rfl,W0,hb0,hk0⟩
         exact⟨rfl,hb0.trans (hk0.mono hb0.size)⟩
     · intro w F bd hR
       have hR':=hR
       obtain⟨bn,cap,rn,rv,hD⟩:=hR
       exact(Zd4 r p0 p1 f0 f1 (fun W hb=>Zea (hD.below hb) r hr p0 p1 f0 f1 _ hf h1)).mono fun e w' ⟨h1,h2⟩=>hR'.unchangedR h2 h1
end
section
open Go.RowKit Go.Lib
section
variable {w:World} {F:Nat→Prop} {bf bn cap:Nat} {pn:List PN} {s:List Nd}
theorem Zex (wf:WF s) {h:Nat→Nat} {B:Nat} (u:Up s h B) (hD:Zh w F bf bn cap pn s) (n k n2 k2 t:Nat) (hn:n < s.length) (hn2:n2 < s.length) (h1:Zm s n t) (h2:Zm s n2 t) (hk:k≤Zn s n) (hk2:k2≤Zn s n2) :
 Calls Tryz.prog 100 #[ptr bf,.agg #[.int .i64 (n:Int),.int .i64 (k:Int)],.agg #[.int .i64 (n2:Int),.int .i64 (k2:Int)]] w fun e w'=>∃ q:Int,e=.returned (.int .i64 q)∧decide (q≤0)=decide (wh (plF s (B+1) t) (n,k)≤wh (plF s (B+1) t) (n2,k2))∧Below w.heap.size w w':=by
 refine(Zew wf hD n k n2 k2 hn hn2).mono ?_
 rintro e w' ⟨t3,t4,l,l2,wa,ta,wb,tb,rfl,hb⟩
 obtain rfl:=ta.one h1
 obtain rfl:=tb.one h2
 refine⟨_,rfl,?_,hb⟩
 rw[XM wf u wa wb hk hk2 (YV _ _) (YV _ _)]
 refine decide_eq_decide.2 ?_
 split
 · constructor <;> intro _ <;> omega
 · split
   · constructor <;> intro _ <;> omega
   · constructor <;> intro _ <;> omega
theorem Zeq (wf:WF s) {h:Nat→Nat} {B:Nat} (u:Up s h B) (hD:Zh w F bf bn cap pn s) (a b c d n k t:Nat) (ha:a < s.length) (hc:c < s.length) (hn:n < s.length) (ta:Zm s a t) (tc:Zm s c t) (tn:Zm s n t) (hb:b≤Zn s a) (hd:d≤Zn s c) (hk:k+1≤Zn s n) :
 Calls Tryz.prog 159 #[ptr bf,spV ⟨a,b,c,d⟩,.agg #[.int .i64 (n:Int),.int .i64 (k:Int)]] w fun e w'=>e=.returned (.bool (cov (plF s (B+1) t) a b c d n k))∧Below w.heap.size w w':=by
 have C1:=hid (fun W (hB:Below w.heap.size w W)=>Zex wf u (hD.below hB) a b n k t ha hn ta tn hb (by omega))
 have C2:=hid (fun W (hB:Below w.heap.size w W)=>Zex wf u (hD.below hB) n (k+1) c d t hn hc tn tc hk hd)
 have hk100:k<1000:=by
  have hx:s[n]?=some s[n]:=List.getElem?_eq_getElem hn
  rw[ZE hx] at hk
  have:=ZaY wf hx
  omega
 clear hD wf u
 unfold cov
 generalize hW1:wh (plF s (B+1) t) (a,b)=q1
 rw[hW1] at C1
 generalize hW2:wh (plF s (B+1) t) (n,k)=q2
 rw[hW2] at C1
 generalize hW3:wh (plF s (B+1) t) (n,k+1)=q3
 rw[hW3] at C2
 generalize hW4:wh (plF s (B+1) t) (c,d)=q4
 rw[hW4] at C2
 clear hW1 hW2 hW3 hW4
 have HB3:Hid (Below w.heap.size w (((w.alloc (.cells #[.int .i64 (a:Int),.int .i64 (b:Int),.int .i64 (c:Int),.int .i64 (d:Int)] 79)).alloc (.cells #[.int .i64 (n:Int),.int .i64 (k:Int)] 37)).alloc (.cells #[.int .i64 (n:Int),.int .i64 ((k:Int)+1)] 37))) :=
  (((Below.refl _ w).alloc (Nat.le_refl _) _).alloc (by simp) _).alloc (by simp only[World.size_alloc];omega) _
 have hx0:(((w.alloc (.cells #[.int .i64 (a:Int),.int .i64 (b:Int),.int .i64 (c:Int),.int .i64 (d:Int)] 79)).alloc (.cells #[.int .i64 (n:Int),.int .i64 (k:Int)] 37)).alloc (.cells #[.int .i64 (n:Int),.int .i64 ((k:Int)+1)] 37)).heap[w.heap.size]?=some (.cells #[.int .i64 (a:Int),.int .i64 (b:Int),.int .i64 (c:Int),.int .i64 (d:Int)] 79 (0,0)):=by
  rw[Below.heap_alloc _ _ _ (by simp only[World.size_alloc];omega),Below.heap_alloc _ _ _ (by simp),heap_alloc_new]
 have hx2:(((w.alloc (.cells #[.int .i64 (a:Int),.int .i64 (b:Int),.int .i64 (c:Int),.int .i64 (d:Int)] 79)).alloc (.cells #[.int .i64 (n:Int),.int .i64 (k:Int)] 37)).alloc (.cells #[.int .i64 (n:Int),.int .i64 ((k:Int)+1)] 37)).heap[w.heap.size+1+1]?=some (.cells #[.int .i64 (n:Int),.int .i64 ((k:Int)+1)] 37 (0,0)):=by
  have:=heap_alloc_new ((w.alloc (.cells #[.int .i64 (a:Int),.int .i64 (b:Int),.int .i64 (c:Int),.int .i64 (d:Int)] 79)).alloc (.cells #[.int .i64 (n:Int),.int .i64 (k:Int)] 37)) (.cells #[.int .i64 (n:Int),.int .i64 ((k:Int)+1)] 37)
  simpa using this
 have HX0:=hid hx0
 have HX2:=hid hx2
 have C1':=hid (C1.out _ HB3.out)
 clear hx0 hx2 C1
 by_cases h12:q1≤q2
 · rw[decide_eq_true h12] at C1' ⊢
   rw[Bool.true_and]
   go_enter Tryz.func159,Tryz.ntmps159
   go_wp2_with (first
    | (go_at_call 100
       refine C1'.out.mono ?_
       clear C1'
       rintro e w1 ⟨r1,rfl,hr1,hb1⟩
       have hy0:=(hb1.block _ (Zc HX0.out)).trans HX0.out
       have hy2:=(hb1.block _ (Zc HX2.out)).trans HX2.out
       have y0:=Za hy0 2
       have y1:=Za hy0 3
       have y2:=Za hy2 0
       have y3:=Za hy2 1
       have HB4:=hid (HB3.out.trans (hb1.mono HB3.out.size))
       clear hb1 hy0 hy2)
    | (go_at_call 100
       refine(C2.out _ HB4.out).mono ?_
       rintro e w2 ⟨r2,rfl,hr2,hb2⟩
       have HB5:=hid (HB4.out.trans (hb2.mono HB4.out.size))
       clear hb2))
   go_ret
   exact⟨rfl,HB5.out⟩
 · rw[decide_eq_false h12] at C1' ⊢
   rw[Bool.false_and]
   go_enter Tryz.func159,Tryz.ntmps159
   go_wp2_with (
    go_at_call 100
    refine C1'.out.mono ?_
    clear C1'
    rintro e w1 ⟨r1,rfl,hr1,hb1⟩
    have HB4:=hid (HB3.out.trans (hb1.mono HB3.out.size))
    clear hb1)
   go_ret
   exact⟨rfl,HB4.out⟩
end
end
section
open Go.RowKit Go.Shelf
attribute [local go_sem] Oper.semAt_some
theorem pk_mem {cs:List ByteArray} {c:Nat→Bool} {k:Nat} {x:ByteArray} (h:x∈pk cs c k):x∈cs:=by
 unfold pk at h
 obtain⟨b,_,hb⟩:=List.mem_flatMap.1 h
 split at hb
 · cases e:cs[b]? with
   | none=>rw[e] at hb;simp at hb
   | some y=>rw[e] at hb;simp at hb;subst hb;exact List.mem_of_getElem? e
 · simp at hb
theorem pk_len (cs:List ByteArray) (c:Nat→Bool) (k:Nat):(pk cs c k).length≤k:=by
 induction k with
 | zero=>simp[pk]
 | succ k ih =>
   rw[ZbX,List.length_append]
   have:(if c k then cs[k]?.toList else []).length≤1:=by
    split
    · cases cs[k]? <;> simp
    · simp
   omega
theorem readP_ch {s:List Nd} (wf:WF s) (L:List (Nat × Nat)) (a b c d:Nat) (ns:List Nat):∀ x∈Yf s L a b c d ns,IsCh x:=by
 intro x hx
 obtain⟨n,_,hx⟩:=List.mem_flatMap.1 hx
 have hx:=pk_mem hx
 unfold csOf at hx
 split at hx
 · rename_i y hy
   exact(wf.chars n y hy).2 x hx
 · simp at hx
theorem Zhm {s:List Nd} (wf:WF s) (L:List (Nat × Nat)) (a b c d:Nat) (ns:List Nat):(Yf s L a b c d ns).length≤30 * ns.length:=by
 induction ns with
 | nil=>simp[Yf]
 | cons n ns ih =>
   have e:Yf s L a b c d (n::ns)=pk (csOf s n) (cov L a b c d n) (csOf s n).length++Yf s L a b c d ns:=by simp[Yf]
   have h1:=pk_len (csOf s n) (cov L a b c d n) (csOf s n).length
   have h2:(csOf s n).length≤30:=by
    unfold csOf
    split
    · rename_i y hy
      exact(wf.chars n y hy).1
    · simp
   rw[e,List.length_append,List.length_cons]
   omega
theorem Zhn (s:List Nd) (L:List (Nat × Nat)) (a b c d:Nat) (ns:List Nat) (n:Nat):Yf s L a b c d (ns++[n])=Yf s L a b c d ns++pk (csOf s n) (cov L a b c d n) (csOf s n).length:=by simp [Yf]
theorem Zdo {F:Nat→Prop} {a w:World} (h:Zb F a w) {k:Nat} (hk:F k∨a.heap.size≤k) (z:ByteArray) (q:Nat):Zb F a (w.iterAt k z q) :=
 h.trans ⟨rfl,rfl,rfl,by rw[Lib.iterAt_size];exact Nat.le_refl _,fun j hj hF=>Lib.iterAt_other w k j z q (fun e=>hF (by rw[e];exact hk))⟩
theorem cat_rune (l:List ByteArray) (h:∀ c∈l,IsCh c) (k:Nat) (c:ByteArray) (hk:l[k]?=some c) :
 ∃ R:Nat,Utf8.decode (catB l) (catB (l.take k)).size=(R,c.size)∧Lib.runeCells (R:Int)=Lib.strCells c∧R≤2147483647∧(catB (l.take k)).size<(catB l).size∧(catB (l.take (k+1))).size=(catB (l.take k)).size+c.size:=by
 obtain⟨hkl,rfl⟩:=List.getElem?_eq_some_iff.1 hk
 have e:l=l.take k++l[k]::l.drop (k+1):=by rw[List.getElem_cons_drop,List.take_append_drop]
 obtain⟨R,h1,h2,h3,h4,h5⟩:=Zai (l.take k) l[k] (l.drop (k+1)) (h _ (List.getElem_mem hkl))
 rw[← e] at h1 h4
 exact⟨R,h1,h2,h3,h4,by rw[List.take_succ_eq_append_getElem hkl];exact h5⟩
def RdInv (bo bp:Nat) (n:Nat) (cs out:List ByteArray) (c:Nat→Bool) (O:Nat→Prop) (W wr:World):Prop :=
 ∃ (k:Nat) (v:Value),k≤cs.length∧wr.heap[bp]?=some (.cells #[.int .i64 (n:Int),.int .i64 (k:Int)] 37 (0,0))∧wr.heap[bp+1]?=some (.stringIter (catB cs) (catB (cs.take k)).size) ∧
  BldV bo v (Lib.strCells (catB (out++pk cs c k))) wr∧Zb O W wr∧(∀ j,v.ownBlock=some j→O j∨W.heap.size≤j)∧v.ownBlock≠some bp
theorem ZiG {s:List Nd} (wf:WF s) {h:Nat→Nat} {B:Nat} (u:Up s h B) {F:Nat→Prop} {bf bn cap:Nat} {pn:List PN} {w:World} (hD:Zh w F bf bn cap pn s) (a b c d t:Nat) (ha:a < s.length) (hc:c < s.length) (ta:Zm s a t) (tc:Zm s c t) (hb:b≤Zn s a) (hd:d≤Zn s c) :
 Calls Tryz.prog 112 #[ptr bf,spV ⟨a,b,c,d⟩] w fun e w'=>e=.returned (.string (catB (Yf s (plF s (B+1) t) a b c d (allF s (B+1) t))))∧Below w.heap.size w w':=by
 have HD:=hid hD.narrow
 clear hD
 refine callsIn_wide.1 (callsIn_of_wp_marks (F:=Fence.wide) (n:=1) Tryz.func112 rfl trivial ?_ rfl)
 simp only[Tryz.ntmps112,List.size_toArray,List.length_cons,List.length_nil,Nat.reduceAdd,Nat.reduceSub,Array.replicate_succ,Array.replicate_zero,List.push_toArray,List.append_toArray,List.nil_append,List.cons_append]
 have C:=hid (fun (W:World)=>Jz bf t W)
 have CT:=hid (fun (W:World) (hb:Below w.heap.size w W)=>Za4 wf (HD.out.below hb) ta ha)
 gi_wp2
 obtain⟨w0,hw0⟩:∃ w0,((w.alloc (.cells #[ptr bf] 91)).alloc (.cells #[.int .i64 (a:Int),.int .i64 (b:Int),.int .i64 (c:Int),.int .i64 (d:Int)] 79)).alloc (.cells #[.pointer none,.slice none 0 0] 219)=w0:=⟨_,rfl⟩
 have hb0:Below w.heap.size w w0:=by rw[← hw0];exact(((Below.refl _ w).alloc (Nat.le_refl _) _).alloc (by simp) _).alloc (by simp only[World.size_alloc];omega) _
 have hsz0:w0.heap.size=w.heap.size+3:=by rw[← hw0];simp
 have y0:w0.heap[w.heap.size]?=some (.cells #[ptr bf] 91 (0,0)):=by
  rw[← hw0,Below.heap_alloc _ _ _ (by simp only[World.size_alloc];omega),Below.heap_alloc _ _ _ (by simp),heap_alloc_new]
 have y1:w0.heap[w.heap.size+1]?=some (.cells #[.int .i64 (a:Int),.int .i64 (b:Int),.int .i64 (c:Int),.int .i64 (d:Int)] 79 (0,0)):=by
  rw[← hw0,Below.heap_alloc _ _ _ (by simp)]
  have:=heap_alloc_new (w.alloc (.cells #[ptr bf] 91)) (.cells #[.int .i64 (a:Int),.int .i64 (b:Int),.int .i64 (c:Int),.int .i64 (d:Int)] 79)
  rwa [World.size_alloc] at this
 have y2:w0.heap[w.heap.size+2]?=some (.cells #[.pointer none,.slice none 0 0] 219 (0,0)):=by
  rw[← hw0]
  have:=heap_alloc_new ((w.alloc (.cells #[ptr bf] 91)).alloc (.cells #[.int .i64 (a:Int),.int .i64 (b:Int),.int .i64 (c:Int),.int .i64 (d:Int)] 79)) (.cells #[.pointer none,.slice none 0 0] 219)
  rwa [World.size_alloc,World.size_alloc] at this
 rw[hw0]
 have e0:w0.cell? ⟨w.heap.size,0,none⟩=some (ptr bf):=Za y0 0
 have e1:w0.cell? ⟨w.heap.size+1,0,none⟩=some (.int .i64 (a:Int)):=Za y1 0
 have HH:=hid (And.intro hb0 (And.intro hsz0 (And.intro y0 (And.intro y1 (And.intro y2 hw0)))))
 clear hb0 hsz0 y0 y1 y2 hw0
 refine wpIn_wide.2 ?_
 go_region_held3 (fun w'=>w'.cell? ⟨w.heap.size,0,none⟩=some (ptr bf)∧w'.cell? ⟨w.heap.size+1,0,none⟩=some (.int .i64 (a:Int))) (first|exact KP.out|go_keep) (first
  | (go_at_call 99;refine(CT.out _ (by first|exact HH.out.1|exact HH.out.1.drew)).mono ?_;rintro e w3 ⟨rfl,hw3⟩;replace hw3:=hw3.symm;subst hw3)
  | (go_at_call 90;refine(C.out _).mono ?_;rintro e w3 ⟨rfl,hw3⟩;replace hw3:=hw3.symm;subst hw3))
 all_goals
  gi_wp2
  obtain⟨wb,hwb⟩:∃ wb,((w0.alloc (.cells #[ptr bf] 91)).alloc (.cells #[.int .i64 (t:Int)] 3)).drew=wb:=⟨_,rfl⟩
  obtain⟨hb0,hsz0,y0,y1,y2,_⟩:=HH.out
  have hszb:wb.heap.size=w.heap.size+5:=by rw[← hwb];simp[hsz0]
  have hb1:Below w0.heap.size w0 wb:=by rw[← hwb];exact(((Below.refl _ w0).alloc (Nat.le_refl _) _).alloc (by simp) _).drew
  have hbb:Below w.heap.size w wb:=hb0.trans (hb1.mono hb0.size)
  have x0:wb.heap[w.heap.size]?=some (.cells #[ptr bf] 91 (0,0)):=(hb1.block _ (Zc y0)).trans y0
  have x1:wb.heap[w.heap.size+1]?=some (.cells #[.int .i64 (a:Int),.int .i64 (b:Int),.int .i64 (c:Int),.int .i64 (d:Int)] 79 (0,0)):=(hb1.block _ (Zc y1)).trans y1
  have x2:wb.heap[w.heap.size+2]?=some (.cells #[.pointer none,.slice none 0 0] 219 (0,0)):=(hb1.block _ (Zc y2)).trans y2
  have x3:wb.heap[w0.heap.size]?=some (.cells #[ptr bf] 91 (0,0)):=by
   have h1:((w0.alloc (.cells #[ptr bf] 91)).alloc (.cells #[.int .i64 (t:Int)] 3)).heap[w0.heap.size]?=some (.cells #[ptr bf] 91 (0,0)):=by
    rw[Below.heap_alloc _ _ _ (by simp)]
    exact heap_alloc_new w0 _
   rw[← hwb];exact h1
  have x4:wb.heap[w0.heap.size+1]?=some (.cells #[.int .i64 (t:Int)] 3 (0,0)):=by
   have h1:=heap_alloc_new (w0.alloc (.cells #[ptr bf] 91)) (.cells #[.int .i64 (t:Int)] 3)
   rw[World.size_alloc] at h1
   rw[← hwb];exact h1
  rw[hwb]
  rw[hsz0] at x3 x4
  simp only[hsz0]
  have hDb:=HD.out.below hbb
  have hHt:=u.le t
  refine J4 (gf:=138) (lb:=#[ptr (w.heap.size+3+1),ptr (w.heap.size+3)]) rfl (enters_of Tryz.func138 (by kernel_rfl) rfl) rfl (O:=fun k=>k=w.heap.size+2) (fun k e=>by omega)
   (Zad wf u (B+1) t ta.lt (by omega) wb _ _ _ hDb (fun k hk=>⟨by have:=hk.2;omega,by have:=hk.2;omega⟩) (Za x4 0) (Za x3 0) (by omega) (by omega))
   (fun pre O3 W=>∃ v,O3=(fun k=>k=w.heap.size+2∨v.ownBlock=some k)∧BldV (w.heap.size+2) v (Lib.strCells (catB (Yf s (plF s (B+1) t) a b c d pre))) W∧Stp (fun k=>k=w.heap.size+2) O3 wb W)
   (fun _ _ _=>False) ?mI ?mIx ?h0
   (fun y=>Act.mk #[ptr bf,spV { a:=a,b:=b,c:=c,d:=d },Value.pointer (some { block:=w.heap.size,off:=0 }),
     Value.pointer (some { block:=w.heap.size+1,off:=0 }),Value.string { data:=#[] },
     Value.pointer (some { block:=w.heap.size+1+1,off:=0 }),.int .i64 (y:Int),undef,undef,undef,ptr bf,
     ptr bf,Value.pointer (some { block:=w.heap.size+1,off:=0 }),
     Value.pointer (some { block:=w.heap.size+1,off:=0 }),Value.int IntKind.i64 a,Value.int IntKind.i64 t,
     Value.func (Fn.func 138) #[] #[ptr (w.heap.size+3+1),ptr (w.heap.size+3)],.int .i64 (y:Int),undef,undef,undef,undef,undef,undef,undef,undef,undef,undef,undef,undef,undef,undef,undef,undef,undef,undef,undef,undef,undef,undef,undef,undef,undef] []) ?assign ?body ?done ?stop
  case mI =>
   rintro pre O3 X Y ⟨v,rfl,h1,h2⟩ hk
   exact⟨v,rfl,h1.keeps hk (fun e=>e.1 (.inl rfl)) (fun k e e2=>e2.1 (.inr e)),XW (Nat.le_refl _) h2 hk⟩
  case mIx=>intro pre O3 X Y h _;exact h
  case h0 =>
   refine⟨.slice none 0 0,?_,⟨.inl x2,World.ownsRow_nil _ _ _ _,fun e=>by cases e⟩,?_⟩
   · funext k;simp[Value.ownBlock]
   · exact Stp.refl (fun k e=>by omega)
  case assign =>
   intro m l' y W K hK
   dsimp only[encN]
   gi_wp2
   exact hK
  case body =>
   rintro m l' pre y O3 W hpre hO3 ⟨v,rfl,h1,h2⟩
   have hyall:y∈allF s (B+1) t:=hpre.subset (by simp)
   have hyl:y<s.length:=X5 wf (B+1) t ta.lt y hyall
   obtain⟨x,hx⟩:∃ x,s[y]?=some x:=⟨_,List.getElem?_eq_getElem hyl⟩
   have hch:=wf.chars y x hx
   have hty:Zm s y t:=⟨XH wf (B+1) t y hyall,ta.2⟩
   have hpl:pre.length+1≤40:=by
    have h3:=hpre.length_le
    have h4:=Yr wf (B+1) t ta.lt
    simp at h3
    omega
   have hO3':∀ k,(k=w.heap.size+2∨v.ownBlock=some k)→¬ k<w.heap.size+2:=fun k e=>by
    rcases h2.gains k e with e1|e1 <;> omega
   have hDW:=hDb.keeps h2.keeps (fun k hk e=>by have:=hk.2;omega)
   have g0:W.cell? ⟨w.heap.size,0,none⟩=some (ptr bf):=h2.keeps.cell (Za x0 0) (by simp)
   have z1:W.heap[w.heap.size+1]?=some (.cells #[.int .i64 (a:Int),.int .i64 (b:Int),.int .i64 (c:Int),.int .i64 (d:Int)] 79 (0,0)):=by
    rw[h2.keeps.block _ (Zc x1) (by simp)];exact x1
   have z0:W.heap[w.heap.size]?=some (.cells #[ptr bf] 91 (0,0)):=by
    rw[h2.keeps.block _ (Zc x0) (by simp)];exact x0
   obtain⟨r,hr,ho,d0,d1,d2,d3⟩:=hDW.look hx
   have n0:=hDW.nodesCell
   have hcov:=fun (k:Nat) (hk:k<x.cs.length) (Wr:World) (hkp:Zb (fun k=>k=w.heap.size+2∨v.ownBlock=some k) W Wr) =>
    Zeq (w:=Wr) wf u (hDW.keeps hkp (fun k hk e=>hO3' k e (by have:=hk.2;omega))) a b c d y k t ha hc hyl ta tc hty hb hd (by
     have ht:x.t=true:=by
      cases e:x.t with
      | true=>rfl
      | false=>rw[(wf.elem y x hx).2 e] at hk;simp at hk
     rw[ZE hx,Yl ht];omega)
   have hcs:csOf s y=x.cs:=YY hx
   have hrl:(Yf s (plF s (B+1) t) a b c d pre).length≤1170:=by
    have:=Zhm wf (plF s (B+1) t) a b c d pre
    omega
   have hrc:=readP_ch wf (plF s (B+1) t) a b c d pre
   have hsn:=Zhn s (plF s (B+1) t) a b c d pre y
   rw[hcs] at hsn
   obtain⟨out,hout⟩:∃ out,Yf s (plF s (B+1) t) a b c d pre=out:=⟨_,rfl⟩
   rw[hout] at h1 hrl hrc hsn
   obtain⟨cf,hcf⟩:∃ cf,cov (plF s (B+1) t) a b c d y=cf:=⟨_,rfl⟩
   rw[hcf] at hcov hsn
   have hlW:W.heap.size ≥ w.heap.size+5:=by have:=h2.keeps.size;omega
   have hlen:∀ k,k≤x.cs.length→(Lib.strCells (catB (out++pk x.cs cf k))).length<lots:=by
    intro k hk
    have h5:=pk_len x.cs cf k
    have h6:=Z3 (out++pk x.cs cf k) (fun z hz=>by
     rcases List.mem_append.1 hz with hz|hz
     · exact hrc z hz
     · exact hch.2 z (pk_mem hz))
    rw[List.length_append] at h6
    rw[Lib.strCells_length]
    unfold lots
    have:=hch.1
    omega
   have hbo:=h1.lt
   have hfl:=hDW.lt
   have q0:¬ w.heap.size=W.heap.size:=by omega
   have q1:¬ bf=W.heap.size:=by omega
   have q2:¬ bn=W.heap.size:=by omega
   have q3:w.heap.size<W.heap.size:=by omega
   have hvl:∀ k,v.ownBlock=some k→k<W.heap.size:=fun k e=>hO3 k (.inr e)
   have G:=hid (And.intro h1 (And.intro hO3 (And.intro hO3' (And.intro z0 (And.intro z1 (And.intro hcov (And.intro hsn (And.intro hlen (And.intro hch.2 (And.intro h2 hvl))))))))))
   have hcl:=hch.1
   have hylI:(y:Int)<(s.length:Int):=by omega
   clear h1 hO3 hO3' z0 z1 hcov hsn hlen hch h2 hvl hDW d0 d1 d2 hr ho hpre hyall hty x0 x1 x2 x3 x4 hDb hb1 y0 y1 y2 hb0 hwb hcs hrl hrc hout hcf hx hszb hHt hsz0 HH HD C CT e0 e1 wf u ta tc ha hc hb hd hpl
   generalize x.cs=cs at *
   gi_wp2
   gi_loopw [9] (fun _ wr=>RdInv (w.heap.size+2) W.heap.size y cs out cf (fun k=>k=w.heap.size+2∨v.ownBlock=some k) W wr) (fun _ wr=>(catB cs).size - wr.iterPos (W.heap.size+1))
   case atStart =>
    obtain⟨h1,hO3,hO3',z0,z1,hcov,hsn,hlen,hch,h2,hvl⟩:=G.out
    refine⟨0,v,Nat.zero_le _,?_,?_,?_,((Zb.refl _ W).alloc _).alloc _,fun k e=>.inl (.inr e),fun e=>by have:=hvl _ e;omega⟩
    · show ((W.alloc (.cells #[.int .i64 (y:Int),.int .i64 0] 37)).alloc (.stringIter (catB cs) 0)).heap[W.heap.size]?=_
      rw[Below.heap_alloc _ _ _ (by simp)]
      exact heap_alloc_new W _
    · have:=heap_alloc_new (W.alloc (.cells #[.int .i64 (y:Int),.int .i64 0] 37)) (.stringIter (catB cs) 0)
      rw[World.size_alloc] at this
      exact this
    · rw[pk_zero,List.append_nil]
      exact h1.keeps (F:=fun _=>False) (((Zb.refl _ W).alloc _).alloc _) (fun e=>e) (fun _ _ e=>e)
   case round =>
    obtain⟨h1,hO3,hO3',z0,z1,hcov,hsn,hlen,hch,h2,hvl⟩:=G.out
    obtain⟨k,v',hk,hp,hi,hbv,hkp,hg,hne⟩:=hrel
    have hbpl:=Zc hp
    have hbil:=Zc hi
    by_cases hlt:k<cs.length
    · obtain⟨ch,hchk⟩:∃ ch,cs[k]?=some ch:=⟨_,List.getElem?_eq_getElem hlt⟩
      obtain⟨R,hd,hR,hR1,hp3,hsz⟩:=cat_rune cs hch k ch hchk
      have hch0:ch.size≠0:=(hch ch (List.mem_of_getElem? hchk)).1
      have hnx:=fun ty=>Lib.run_next_any_at (P:=Tryz.prog) _ (W.heap.size+1) (catB cs) _ ty hi hp3
      rw[hd] at hnx
      simp only at hnx
      obtain⟨q,hq⟩:∃ q,(catB (cs.take k)).size=q:=⟨_,rfl⟩
      rw[hq] at hnx hi hp3 hsz
      have hi2:=Lib.iterAt_heap wr (W.heap.size+1) (catB cs) _ (q+ch.size) hi
      have hki:Zb (fun k=>k=W.heap.size+1) wr (wr.iterAt (W.heap.size+1) (catB cs) (q+ch.size)):=Zdo (Zb.refl (fun k=>k=W.heap.size+1) wr) (k:=W.heap.size+1) (.inl rfl) _ _
      have hkp2:=Zdo hkp (k:=W.heap.size+1) (.inr (by omega)) (catB cs) (q+ch.size)
      have hbv2:BldV (w.heap.size+2) v' (Lib.strCells (catB (out++pk cs cf k))) (wr.iterAt (W.heap.size+1) (catB cs) (q+ch.size)):=by
       refine hbv.keeps hki (by omega) (fun j e e2=>?_)
       subst e2
       obtain⟨_,ho2,_⟩:=hbv
       rcases ho2.2 with ⟨hv,_⟩|⟨g,cap',cur,hv,_,hh,_⟩
       · rw[hv] at e;cases e
       · rw[hv] at e
         cases e
         rw[hi] at hh;cases hh
      have hp2:(wr.iterAt (W.heap.size+1) (catB cs) (q+ch.size)).heap[W.heap.size]?=some (.cells #[.int .i64 (y:Int),.int .i64 (k:Int)] 37 (0,0)):=by
       rw[hki.block _ hbpl (by omega)];exact hp
      have zz1:=(hkp2.block _ (Zc z1) (fun e=>hO3' _ e (by omega))).trans z1
      have zz0:=(hkp2.block _ (Zc z0) (fun e=>hO3' _ e (by omega))).trans z0
      obtain⟨wi,hwi⟩:∃ wi,wr.iterAt (W.heap.size+1) (catB cs) (q+ch.size)=wi:=⟨_,rfl⟩
      rw[hwi] at hi2 hki hkp2 hbv2 hp2 zz1 zz0 hnx
      have CC:=hid (hcov k hlt wi hkp2)
      have cp0:=Za hp2 0
      have cp1:=Za hp2 1
      have c00:=Za zz0 0
      have c10:=Za zz1 0
      have c11:=Za zz1 1
      have c12:=Za zz1 2
      have c13:=Za zz1 3
      have IP:=iterPos_of hi
      have hwil:wi.heap.size=wr.heap.size:=by rw[← hwi,Lib.iterAt_size]
      have hlen2:=hlen k hk
      have hsz1:(catB cs).size - (q+ch.size)<(catB cs).size - q:=by omega
      have H:=hid (And.intro hi2 (And.intro hkp2 (And.intro hbv2 (And.intro hp2 (And.intro hg (And.intro hne (And.intro hsz (And.intro hlen2 (And.intro hR hchk)))))))))
      have HWI:=hid hwi
      have HG:=hid (And.intro hO3' hvl)
      clear hi2 hkp2 hbv2 hp2 hg hne hsz hlen2 hR hchk h1 hO3 hO3' z0 z1 hcov hsn hlen hch h2 hvl hp hi hbv hkp hki zz0 zz1 hd hwi hp3 hq
      cases hck:cf k with
      | true =>
        rw[hck] at CC
        gi_wp2_with (first
         | (refine⟨trivial,fun h=>by simp[Fence.wide] at h,?_⟩
            gi_at_call 159
            refine(CallsIn.inRound l' (callsIn_wide.2 CC.out)).mono ?_
            rintro e w6 ⟨rfl,hb6⟩
            obtain⟨hi2,hkp2,hbv2,hp2,hg,hne,hsz,hlen2,hR,hchk⟩:=H.out
            have hk6:Zb (fun _=>False) wi w6:=Zb.of_below hb6
            have CR:=hid (bruneV (R:Int) (by omega) (by omega) (hbv2.keeps hk6 (fun e=>e) (fun _ _ e=>e)) hlen2)
            rw[hR] at CR
            have H6:=hid hk6
            have hs6:=hb6.size
            clear hi2 hkp2 hbv2 hp2 hg hne hsz hlen2 hR hchk hk6 hb6)
         | (refine⟨trivial,fun h=>by simp[Fence.wide] at h,?_⟩
            gi_at_call 160
            refine(CallsIn.inRound l' (callsIn_wide.2 CR.out)).mono ?_
            rintro e w7 ⟨n7,v7,rfl,hbv7,hk7,hg7,hi7⟩
            obtain⟨hi2,hkp2,hbv2,hp2,hg,hne,hsz,hlen2,hR,hchk⟩:=H.out
            have hp6:=(H6.out.block _ (Zc hp2) (fun e=>e)).trans hp2
            have hp7:=(hk7.block _ (Zc hp6) (fun e=>e.elim (fun e=>by omega) (fun e=>hne e))).trans hp6
            have cq1:=Za hp7 1
            have cf1:=Zd hp7 1
            have H7:=hid (And.intro hbv7 (And.intro hk7 (And.intro hg7 (And.intro hi7 hp7))))
            clear hi2 hkp2 hbv2 hp2 hg hne hsz hlen2 hR hchk hp6 hp7 hbv7 hk7 hg7 hi7))
        obtain⟨hi2,hkp2,hbv2,hp2,hg,hne,hsz,hlen2,hR,hchk⟩:=H.out
        obtain⟨hbv7,hk7,hg7,hi7,hp7⟩:=H7.out
        have hi8:(w7.setCell ⟨W.heap.size,1,none⟩ (.int .i64 ((k:Int)+1))).heap[W.heap.size+1]?=some (.stringIter (catB cs) (q+ch.size)) :=
         ZH.setCell _ hp7 _ _ _ (hi7 _ _ _ ((H6.out.block _ (Zc hi2) (fun e=>e)).trans hi2))
        have hkS:=(Zb.refl (fun j=>j=W.heap.size) w7).setCell (p:=⟨W.heap.size,1,none⟩) (.inl rfl) (.int .i64 ((k:Int)+1))
        have hne7:v7.ownBlock≠some W.heap.size:=fun e=>by
         rcases hg7 _ e with e1|e1
         · exact hne e1
         · omega
        go_roundw
        case rel =>
         refine⟨k+1,v7,by omega,?_,by rw[hsz];exact hi8,?_,?_,?_,hne7⟩
         · rw[heap_setCell_same w7 _ 1 _ _ _ hp7];rfl
         · have:=hbv7.keeps hkS (by omega) (fun j e e2=>hne7 (e2 ▸ e))
           have e1:catB [ch]=ch:=by show ByteArray.empty++ch=ch;simp
           rw[ZbX,hck,if_pos rfl,hchk,← List.append_assoc,Yo,Y4,Option.toList_some,e1]
           exact this
         · refine(((hkp2.trans (H6.out.mono (fun j _ e=>e.elim))).trans (hk7.mono (fun j _ e=>?_))).setCell (p:=⟨W.heap.size,1,none⟩) (.inr (Nat.le_refl _)) _)
           rcases e with e|e
           · exact .inl (.inl e)
           · exact hg j e
         · intro j e
           rcases hg7 j e with e1|e1
           · exact hg j e1
           · exact .inr (by omega)
        case measure =>
         rw[iterPos_of hi8,IP]
         exact hsz1
      | false =>
        rw[hck] at CC
        gi_wp2_with (
         refine⟨trivial,fun h=>by simp[Fence.wide] at h,?_⟩
         gi_at_call 159
         refine(CallsIn.inRound l' (callsIn_wide.2 CC.out)).mono ?_
         rintro e w7 ⟨rfl,hb6⟩
         obtain⟨hi2,hkp2,hbv2,hp2,hg,hne,hsz,hlen2,hR,hchk⟩:=H.out
         have hk6:Zb (fun _=>False) wi w7:=Zb.of_below hb6
         have H6:=hid hk6
         have hs6:=hb6.size
         have hp7:=(hk6.block _ (Zc hp2) (fun e=>e)).trans hp2
         have cq1:=Za hp7 1
         have cf1:=Zd hp7 1
         have H7:=hid hp7
         clear hi2 hkp2 hbv2 hp2 hg hne hsz hlen2 hR hchk hk6 hb6 hp7)
        obtain⟨hi2,hkp2,hbv2,hp2,hg,hne,hsz,hlen2,hR,hchk⟩:=H.out
        have hp7:=H7.out
        have hi8:(w7.setCell ⟨W.heap.size,1,none⟩ (.int .i64 ((k:Int)+1))).heap[W.heap.size+1]?=some (.stringIter (catB cs) (q+ch.size)) :=
         ZH.setCell _ hp7 _ _ _ ((H6.out.block _ (Zc hi2) (fun e=>e)).trans hi2)
        have hkS:=(Zb.refl (fun j=>j=W.heap.size) w7).setCell (p:=⟨W.heap.size,1,none⟩) (.inl rfl) (.int .i64 ((k:Int)+1))
        go_roundw
        case rel =>
         refine⟨k+1,v',by omega,?_,by rw[hsz];exact hi8,?_,?_,hg,hne⟩
         · rw[heap_setCell_same w7 _ 1 _ _ _ hp7];rfl
         · have:=(hbv2.keeps H6.out (fun e=>e) (fun _ _ e=>e)).keeps hkS (by omega) (fun j e e2=>hne (e2 ▸ e))
           rw[ZbX,hck,if_neg (by decide),List.append_nil]
           exact this
         · exact((hkp2.trans (H6.out.mono (fun j _ e=>e.elim))).setCell (p:=⟨W.heap.size,1,none⟩) (.inr (Nat.le_refl _)) _)
        case measure =>
         rw[iterPos_of hi8,IP]
         exact hsz1
    · obtain rfl:k=cs.length:=by omega
      rw[List.take_length] at hi
      have hnx:=fun ty=>Lib.run_next_end_at (P:=Tryz.prog) _ (W.heap.size+1) (catB cs) _ ty hi (Nat.lt_irrefl _)
      have H:=hid (And.intro hbv (And.intro hkp hg))
      have HG:=hid (And.intro hsn h2)
      clear h1 hO3 hO3' z0 z1 hcov hsn hlen hch h2 hvl hp hbv hkp hg hi
      gi_wp2
      obtain⟨hbv,hkp,hg⟩:=H.out
      obtain⟨hsn,h2⟩:=HG.out
      have hs:Stp (fun k=>k=w.heap.size+2∨v.ownBlock=some k) (fun k=>k=w.heap.size+2∨v'.ownBlock=some k) W wr:=by
       refine⟨hkp,?_,?_⟩
       · rintro j (e|e)
         · exact .inl (.inl e)
         · exact hg j e
       · rintro j (e|e)
         · rw[e];exact hbv.lt
         · exact(hbv.2.1.lt j e).2
      exact⟨_,hs,v',rfl,by rw[hsn];exact hbv,h2.trans hs⟩
  case done =>
   rintro O5 W st5 hn5 ⟨v,rfl,h1,h2⟩ hD5
   have CS:=hid (bstringV (catB (Yf s (plF s (B+1) t) a b c d (allF s (B+1) t))).data.toList h1)
   have H:=hid (And.intro st5 (And.intro hn5 hD5))
   have HZ:=hid hszb
   clear st5 hn5 h1 h2 hD5 x0 x1 x2 x3 x4 hszb hDb hb1 y0 y1 y2 hb0 hwb
   gi_wp2_with (refine⟨trivial,?_⟩;gi_at_call 148;refine(callsIn_wide.2 CS.out).mono ?_;rintro e w5 ⟨rfl,hk5⟩)
   obtain⟨st5,hn5,hD5⟩:=H.out
   have hszb:=HZ.out
   refine Y9 [wb.heap.size] _ (by simp) (fun D hm=>?_) (fun w' hk'=>⟨.string (catB (Yf s (plF s (B+1) t) a b c d (allF s (B+1) t))),?_,rfl,?_⟩)
   · obtain rfl:D=wb.heap.size:=by simpa using hm
     rw[hk5.block _ (Zc hD5) (fun e=>hn5 (.inr e))]
     exact hD5
   · exact results_tmp (fn:=Tryz.f112) (t:=4) rfl _ _ _
   · have k1:Zb (fun _=>False) w wb:=Zb.of_below hbb
     have k2:Zb (fun _=>False) w W:=k1.trans (st5.keeps.mono (fun k _ e=>.inr (by omega)))
     have k3:Zb (fun _=>False) w w5:=k2.trans (hk5.mono (fun k _ e=>.inr (by
      rcases st5.gains k (.inr e) with e1|e1 <;> omega)))
     exact(k3.trans (hk'.mono (fun k _ e=>.inr (by simp at e;omega)))).below
  case stop =>
   rintro O5 pre W hpre st5 hn5 h hD5
   exact h.elim
end
section
open Go.RowKit
theorem way_pl {s:List Nd} (wf:WF s) {h:Nat→Nat} {B:Nat} (u:Up s h B) {t n k:Nat} {l:List Nat} (wy:Way s t n l) (hk:k≤Zn s n):(n,k)∈plF s (B+1) t:=by
 have h1:=ZeK wf u wy
 have h2:=u.le t
 have h3:=way_pp wf wy (B - l.length+1) _ (ZdZ (k:=B - l.length) hk)
 have e:B - l.length+1+l.length=B+1:=by omega
 rw[e] at h3
 rw[← pp_fst]
 exact List.mem_map.2 ⟨_,h3,rfl⟩
theorem Zgp {l l2:List Nat} {k k2:Nat} (h:leP (pw l k) (pw l2 k2)):lexC (l++[k]) (l2++[k2])≤0:=by
 rcases h with h|h
 · rw[pw_inj h,Zdu];exact Int.le_refl 0
 · rw[ZaD _ _ _ _ h];decide
structure SpAt (s:List Nd) (B:Nat) (z:Sp) (a b c d t i j:Nat):Prop where
 eq:z=⟨a,b,c,d⟩
 ha:a<s.length
 hc:c<s.length
 ta:Zm s a t
 tc:Zm s c t
 hb:b≤Zn s a
 hd:d≤Zn s c
 hi:(plF s (B+1) t)[i]?=some (a,b)
 hj:(plF s (B+1) t)[j]?=some (c,d)
 hij:i≤j
theorem Zeh {s:List Nd} (wf:WF s) {h:Nat→Nat} {B:Nat} (u:Up s h B) {z:Sp} (hz:SpIs s z):∃ a b c d t i j,SpAt s B z a b c d t i j:=by
 obtain⟨a,b,c,d,t,l,l2,rfl,h1,h2,ta,wa,wc,hle⟩:=hz
 obtain⟨a',b',ea,eb,ha,hb⟩:=h1
 obtain⟨c',d',ec,ed,hc,hd⟩:=h2
 obtain rfl:a=a':=by omega
 obtain rfl:b=b':=by omega
 obtain rfl:c=c':=by omega
 obtain rfl:d=d':=by omega
 obtain⟨x,hx,hp⟩:=ta.2
 have tc:=YU wf wc hx hp
 obtain⟨i,ei,hi⟩:=Zci (way_pl wf u wa hb)
 obtain⟨j,ej,hj⟩:=Zci (way_pl wf u wc hd)
 refine⟨a,b,c,d,t,i,j,rfl,ha,hc,ta,tc,hb,hd,hi,hj,?_⟩
 have:=Zgp hle
 rw[XM wf u wa wc hb hd (YV _ _) (YV _ _),ei,ej] at this
 rcases Nat.lt_or_ge j i with h|h
 · rw[if_neg (by omega),if_pos (by omega)] at this
   omega
 · exact h
end
section
open Go.RowKit
section
variable {w:World} {F:Nat→Prop} {bx bf bl:Nat} {sv:Value} {s:List Nd} {rs:List Sp}
theorem lread_no (hD:Zk w F bx bf bl sv ⟨s,rs⟩) (r:Int) (h:r < 0∨(rs.length:Int)≤r) :
 Calls Tryz.prog 67 #[ptr bl,.int .i64 r] w fun e w'=>e=.returned (.tuple #[.string ⟨#[]⟩,.iface 141 (.agg #[.int .i64 r])])∧Below w.heap.size w w':=by
 have C:=hid (J0 hD r h)
 clear hD h
 go_enter Tryz.func67,Tryz.ntmps67
 go_wp2_with (
  go_at_call 69
  refine C.out.mono ?_
  rintro e w1 ⟨rfl,hb1⟩
  have HB1:=hid hb1
  clear hb1)
 go_ret2
 exact⟨rfl,HB1.out.alloc HB1.out.size _⟩
theorem lread_ok (hD:Zk w F bx bf bl sv ⟨s,rs⟩) (r:Nat) (x:Sp) (hx:rs[r]?=some x) (z:ByteArray)
 (hT:∀ W,Below w.heap.size w W→Calls Tryz.prog 112 #[ptr bf,spV x] W fun e w'=>e=.returned (.string z)∧Below W.heap.size W w') :
 Calls Tryz.prog 67 #[ptr bl,.int .i64 (r:Int)] w fun e w'=>e=.returned (.tuple #[.string z,.nilIface])∧Below w.heap.size w w':=by
 have C:=hid (J1 hD r x hx)
 have c0:w.cell? ⟨bl,0,none⟩=some (ptr bf):=Za hD.list 0
 have hll:=Zc hD.list
 have HT:=hid hT
 clear hD hx hT
 go_enter Tryz.func67,Tryz.ntmps67
 go_wp2_with (
  go_at_call 69
  refine C.out.mono ?_
  rintro e w1 ⟨rfl,hb1⟩
  have d0:=(hb1.cell (p:=⟨bl,0,none⟩) hll).trans c0
  have hs1:=hb1.size
  have hne:¬ bl=w1.heap.size:=by omega
  have HB1:=hid (hb1.alloc hb1.size (.cells #[.int .i64 x.a,.int .i64 x.b,.int .i64 x.c,.int .i64 x.d] 79))
  have HS1:=hid (heap_alloc_new w1 (.cells #[.int .i64 x.a,.int .i64 x.b,.int .i64 x.c,.int .i64 x.d] 79))
  have D0:=hid ((Below.heap_alloc w1 (.cells #[.int .i64 x.a,.int .i64 x.b,.int .i64 x.c,.int .i64 x.d] 79) bl (by omega)))
  clear hb1)
 go_region_held3 (fun w'=>w'.cell? ⟨bl,0,none⟩=some (ptr bf)∧w'.cell? ⟨w1.heap.size,0,none⟩=some (.int .i64 x.a)∧w'.cell? ⟨w1.heap.size,1,none⟩=some (.int .i64 x.b)∧w'.cell? ⟨w1.heap.size,2,none⟩=some (.int .i64 x.c)∧w'.cell? ⟨w1.heap.size,3,none⟩=some (.int .i64 x.d)) (first|exact KP.out|go_keep) ((
  go_at_call 112
  refine(HT.out _ HB1.out.drew).mono ?_
  rintro e w2 ⟨rfl,hb2'⟩
  have hb2:Below (w1.alloc (.cells #[.int .i64 x.a,.int .i64 x.b,.int .i64 x.c,.int .i64 x.d] 79)).heap.size (w1.alloc (.cells #[.int .i64 x.a,.int .i64 x.b,.int .i64 x.c,.int .i64 x.d] 79)) w2:=⟨hb2'.os,hb2'.tape,hb2'.output,hb2'.size,hb2'.block⟩
  have hs2:=(hb2.block w1.heap.size (by simp)).trans HS1.out
  have d2:w2.cell? ⟨bl,0,none⟩=some (ptr bf):=by
   have hk:Zb (fun _=>False) w1 w2:=((Zb.refl _ w1).alloc _).trans (Zb.of_below hb2)
   exact hk.cell d0 (fun e=>e)
  have KP:=hid (And.intro d2 (And.intro (show w2.cell? ⟨w1.heap.size,0,none⟩=some (.int .i64 x.a) from Za hs2 0) (And.intro (show w2.cell? ⟨w1.heap.size,1,none⟩=some (.int .i64 x.b) from Za hs2 1) (And.intro (show w2.cell? ⟨w1.heap.size,2,none⟩=some (.int .i64 x.c) from Za hs2 2) (show w2.cell? ⟨w1.heap.size,3,none⟩=some (.int .i64 x.d) from Za hs2 3)))))
  have HB2:=hid (HB1.out.trans (hb2.mono HB1.out.size))
  clear hb2 hb2' hs2 d2))
 all_goals
  go_wp2
  go_ret2
  exact⟨rfl,HB2.out⟩
end
theorem ZdG {w:World} {F:Nat→Prop} {bx:Nat} {s:List Nd} {rs:List Sp} (hg:GG w) (hP:Zv w F bx ⟨s,rs⟩) (r:Int) (z:ByteArray) (v:Value) (hv:v=.nilIface∨∃ t u,v=.iface t u) {a y:Int} (hE:Z2 v a y)
 (hS:∀ bf bl sv,Zk w F bx bf bl sv ⟨s,rs⟩→Calls Tryz.prog 67 #[ptr bl,.int .i64 r] w fun e w'=>e=.returned (.tuple #[.string z,v])∧Below w.heap.size w w') :
 Calls Tryz.prog 33 #[ptr bx,.int .i64 r] w (ZY F w bx ⟨s,rs⟩ (.tuple #[.string z,errV a y])):=by
 have HP:=hid hP
 obtain⟨bf,bl,sv,hD⟩:=hP
 have C:=hid (hS _ _ _ hD)
 have c1:w.cell? ⟨bx,1,none⟩=some (ptr bl):=Za hD.doc 1
 have E:=hid (fun w1 (hb:Below w.heap.size w w1)=>hE w1 (hg.below hb).1)
 clear hD hS hg hE
 rcases hv with rfl|⟨t,u,rfl⟩
 all_goals
  go_enter Tryz.func33,Tryz.ntmps33
  go_wp2_with (first
   | (go_at_call 67;refine C.out.mono ?_;rintro e w1 ⟨rfl,hb1⟩
      have HB1:=hid hb1
      clear hb1)
   | (go_at_call 46;refine(E.out _ HB1.out).mono ?_;rintro e w2 ⟨rfl,hb2⟩
      have HB2:=hid (HB1.out.trans (hb2.mono HB1.out.size))
      clear hb2))
  go_ret2
  exact⟨rfl,HP.out.after HB2.out⟩
end
section
open Go.RowKit Go.Lib
theorem Zag (bf:Nat) (n o e:Int) (w:World):Calls Tryz.prog 187 #[ptr bf,.int .i64 n,.int .i64 o,.int .i64 e] w fun r w' =>
 r=.returned (.func (.func 198) #[] #[ptr w.heap.size,ptr (w.heap.size+1),ptr (w.heap.size+2),ptr (w.heap.size+3)])∧w'=(((w.alloc (.cells #[ptr bf] 91)).alloc (.cells #[.int .i64 n] 3)).alloc (.cells #[.int .i64 o] 3)).alloc (.cells #[.int .i64 e] 3):=by
 go_enter Tryz.func187,Tryz.ntmps187
 go_wp2
 go_ret
 exact⟨rfl,rfl⟩
def FnAt (w:World) (C:Nat→Prop) (bf:Nat):Dact→Value→Prop
 | (n,some (o,e)),cv=>∃ x0 x1 x2 x3,cv=.func (.func 198) #[] #[ptr x0,ptr x1,ptr x2,ptr x3]∧w.cell? ⟨x0,0,none⟩=some (ptr bf)∧w.cell? ⟨x1,0,none⟩=some (.int .i64 (n:Int))∧w.cell? ⟨x2,0,none⟩=some (.int .i64 (o:Int))∧w.cell? ⟨x3,0,none⟩=some (.int .i64 (e:Int))∧C x0∧C x1∧C x2∧C x3
 | (i,none),cv=>∃ x0 x1,cv=.func (.func 189) #[] #[ptr x0,ptr x1]∧w.cell? ⟨x0,0,none⟩=some (ptr bf)∧w.cell? ⟨x1,0,none⟩=some (.int .i64 (i:Int))∧C x0∧C x1
theorem FnAt.keeps {w W:World} {C:Nat→Prop} {bf:Nat} {act:Dact} {cv:Value} {G:Nat→Prop} (h:FnAt w C bf act cv) (hk:Zb G w W) (hG:∀ b,C b→¬ G b):FnAt W C bf act cv:=by
 obtain⟨n,oe⟩:=act
 cases oe with
 | none =>
   obtain⟨x0,x1,e,h0,h1,l0,l1⟩:=h
   exact⟨x0,x1,e,hk.cell h0 (hG _ l0),hk.cell h1 (hG _ l1),l0,l1⟩
 | some oe =>
   obtain⟨o,e'⟩:=oe
   obtain⟨x0,x1,x2,x3,e,h0,h1,h2,h3,l0,l1,l2,l3⟩:=h
   exact⟨x0,x1,x2,x3,e,hk.cell h0 (hG _ l0),hk.cell h1 (hG _ l1),hk.cell h2 (hG _ l2),hk.cell h3 (hG _ l3),l0,l1,l2,l3⟩
theorem FnAt.wider {w:World} {C C':Nat→Prop} {bf:Nat} {act:Dact} {cv:Value} (h:FnAt w C bf act cv) (hC:∀ b,C b→C' b):FnAt w C' bf act cv:=by
 obtain⟨n,oe⟩:=act
 cases oe with
 | none =>
   obtain⟨x0,x1,e,h0,h1,l0,l1⟩:=h
   exact⟨x0,x1,e,h0,h1,hC _ l0,hC _ l1⟩
 | some oe =>
   obtain⟨o,e'⟩:=oe
   obtain⟨x0,x1,x2,x3,e,h0,h1,h2,h3,l0,l1,l2,l3⟩:=h
   exact⟨x0,x1,x2,x3,e,h0,h1,h2,h3,hC _ l0,hC _ l1,hC _ l2,hC _ l3⟩
theorem cut1_run {W:World} {F:Nat→Prop} {f:Mvf} {s':List Nd} {bf n o e x0 x1 x2 x3:Nat} (h0:W.cell? ⟨x0,0,none⟩=some (ptr bf)) (h1:W.cell? ⟨x1,0,none⟩=some (.int .i64 (n:Int))) (h2:W.cell? ⟨x2,0,none⟩=some (.int .i64 (o:Int))) (h3:W.cell? ⟨x3,0,none⟩=some (.int .i64 (e:Int))) (hoe:o≤e) (he:e≤30)
 (hT:Calls Tryz.prog 68 #[ptr bf,.int .i64 (n:Int),.int .i64 (o:Int),.int .i64 ((e:Int) - (o:Int)),.string ⟨#[]⟩] W (TMv f F W bf s')) :
 Calls Tryz.prog 198 #[ptr x0,ptr x1,ptr x2,ptr x3] W (TMv f F W bf s'):=by
 have l0:=World.block_lt_of_cell? W _ h0
 have l1:=World.block_lt_of_cell? W _ h1
 have l2:=World.block_lt_of_cell? W _ h2
 have l3:=World.block_lt_of_cell? W _ h3
 have C:=hid hT
 have q1:IntKind.i64.wrap ((e:Int) - (o:Int))=(e:Int) - (o:Int):=by rw[IntKind.wrap_i64];omega
 clear hT
 go_enter Tryz.func198,Tryz.ntmps198
 go_wp2_with (
  go_at_call 68
  refine C.out.mono ?_
  rintro r w1 ⟨mv,m,rfl,hk,h1',h2',hf,hm⟩
  obtain⟨gf,lb,rfl,hE,hR⟩:=hm.runs
  have H1:=hid (And.intro hk (And.intro h1' (And.intro h2' (And.intro hf (ZR.mk ⟨gf,lb,rfl,hE,hR⟩)))))
  clear hk h1' h2' hf hm hE hR)
 go_ret2
 obtain⟨hk,h1',h2',hf,hm⟩:=H1.out
 exact⟨_,m,rfl,hk,h1',h2',hf,hm⟩
theorem rem1_run {W:World} {F:Nat→Prop} {f:Mvf} {s':List Nd} {bf i x0 x1:Nat} (h0:W.cell? ⟨x0,0,none⟩=some (ptr bf)) (h1:W.cell? ⟨x1,0,none⟩=some (.int .i64 (i:Int)))
 (hT:Calls Tryz.prog 97 #[ptr bf,.int .i64 (i:Int)] W (TMv f F W bf s')) :
 Calls Tryz.prog 189 #[ptr x0,ptr x1] W (TMv f F W bf s'):=by
 have l0:=World.block_lt_of_cell? W _ h0
 have l1:=World.block_lt_of_cell? W _ h1
 have C:=hid hT
 clear hT
 go_enter Tryz.func189,Tryz.ntmps189
 go_wp2_with (
  go_at_call 97
  refine C.out.mono ?_
  rintro r w1 ⟨mv,m,rfl,hk,h1',h2',hf,hm⟩
  obtain⟨gf,lb,rfl,hE,hR⟩:=hm.runs
  have H1:=hid (And.intro hk (And.intro h1' (And.intro h2' (And.intro hf (ZR.mk ⟨gf,lb,rfl,hE,hR⟩)))))
  clear hk h1' h2' hf hm hE hR)
 go_ret2
 obtain⟨hk,h1',h2',hf,hm⟩:=H1.out
 exact⟨_,m,rfl,hk,h1',h2',hf,hm⟩
theorem ZcI:Zr ⟨#[]⟩=some []:=by
 unfold Zr
 rfl
theorem fn_run {W:World} {F C:Nat→Prop} {bf:Nat} {act:Dact} {cv:Value} {s s':List Nd} {f:Mvf} (h:FnAt W C bf act cv) (hD:PFor W F bf s) (hc:Chg s act s' f) (wf:WF s) (hT:Tabs W) :
 ∃ gf lb,cv=.func (.func gf) #[] lb∧(∀ args w,(callFunc gf args).run Tryz.prog w=.ok (.enter gf args) w)∧Calls Tryz.prog gf lb W (TMv f F W bf s'):=by
 have hcap:=wf.cap
 cases hc with
 | @cut n o e x hx ht h1 h2 =>
   obtain⟨x0,x1,x2,x3,rfl,c0,c1,c2,c3,_⟩:=h
   refine⟨_,_,rfl,enters_of Tryz.func198 (by kernel_rfl) rfl,?_⟩
   have hch:=wf.chars n x hx
   refine cut1_run c0 c1 c2 c3 h1 (by omega) ?_
   have hY:YD (30 - o - (x.cs.length - (o+(e - o)))) ⟨#[]⟩ []:=⟨ZcI,Nat.zero_le _⟩
   have hR:=Zez hD n o ((e:Int) - (o:Int)) ⟨#[]⟩ x hx ht hch.1 hch.2 (by omega) [] (x.cs.take o++[]++x.cs.drop (o+(e - o))) ZcI (by simp) (by omega) (fun w1 hb =>
    Zel x.cs hch.2 hch.1 o (e - o) ((e:Int) - (o:Int)) (by omega) (by omega) (by omega) (by omega) ⟨#[]⟩ (by unfold lots;show (0:Nat)<_;omega) [] hY w1 (hT.below hb))
   have hmin:min ((e:Int) - (o:Int)) ((x.cs.length:Int) - o)=((e - o:Nat):Int):=by omega
   rw[hmin] at hR
   exact hR
 | @rem i j k x y h2 H2 hx hj hy hk hno hij wf2 u2 =>
   obtain⟨x0,x1,rfl,c0,c1,_⟩:=h
   refine⟨_,_,rfl,enters_of Tryz.func189 (by kernel_rfl) rfl,?_⟩
   have hkl:=XT wf hy
   exact rem1_run c0 c1 (Zey hD i j k x y hx hj hy hk hno hij (by unfold lots;omega) (by unfold lots;omega) wf2 u2)
end
section
open Go.RowKit Go.Lib
def Yh (w:World) (C:Nat→Prop) (bf:Nat) (acts:List Dact) (cvs:List Value):Prop:=cvs.length=acts.length∧∀ (i:Nat) (a:Dact) (v:Value),acts[i]?=some a→cvs[i]?=some v→FnAt w C bf a v
theorem Yh.keeps {w W:World} {C:Nat→Prop} {bf:Nat} {acts:List Dact} {cvs:List Value} {G:Nat→Prop} (h:Yh w C bf acts cvs) (hk:Zb G w W) (hG:∀ b,C b→¬ G b):Yh W C bf acts cvs :=
 ⟨h.1,fun i a v h1 h2=>(h.2 i a v h1 h2).keeps hk hG⟩
theorem Yh.wider {w:World} {C C':Nat→Prop} {bf:Nat} {acts:List Dact} {cvs:List Value} (h:Yh w C bf acts cvs) (hC:∀ b,C b→C' b):Yh w C' bf acts cvs :=
 ⟨h.1,fun i a v h1 h2=>(h.2 i a v h1 h2).wider hC⟩
theorem Yh.nil (w:World) (C:Nat→Prop) (bf:Nat):Yh w C bf [] []:=⟨rfl,fun i a v h=>by simp at h⟩
theorem Yh.snoc {w:World} {C:Nat→Prop} {bf:Nat} {acts:List Dact} {cvs:List Value} {a:Dact} {v:Value} (h:Yh w C bf acts cvs) (hv:FnAt w C bf a v):Yh w C bf (acts++[a]) (cvs++[v]):=by
 refine⟨by simp[h.1],fun i a' v' h1 h2=>?_⟩
 by_cases hi:i<acts.length
 · rw[List.getElem?_append_left hi] at h1
   rw[List.getElem?_append_left (by rw[h.1];exact hi)] at h2
   exact h.2 i a' v' h1 h2
 · rw[List.getElem?_append_right (by omega)] at h1
   rw[List.getElem?_append_right (by rw[h.1];omega),h.1] at h2
   obtain⟨k,hk⟩:∃ k,k=i - acts.length:=⟨_,rfl⟩
   rw[← hk] at h1 h2
   cases k with
   | zero=>simp at h1 h2;subst h1;subst h2;exact hv
   | succ k=>simp at h1
theorem Zah (w:World) (bf n o e:Nat):FnAt ((((w.alloc (.cells #[ptr bf] 91)).alloc (.cells #[.int .i64 (n:Int)] 3)).alloc (.cells #[.int .i64 (o:Int)] 3)).alloc (.cells #[.int .i64 (e:Int)] 3)) (fun b=>w.heap.size≤b∧b < w.heap.size+4) bf (n,some (o,e))
 (.func (.func 198) #[] #[ptr w.heap.size,ptr (w.heap.size+1),ptr (w.heap.size+2),ptr (w.heap.size+3)]):=by
 have x0:((((w.alloc (.cells #[ptr bf] 91)).alloc (.cells #[.int .i64 (n:Int)] 3)).alloc (.cells #[.int .i64 (o:Int)] 3)).alloc (.cells #[.int .i64 (e:Int)] 3)).heap[w.heap.size]?=some (.cells #[ptr bf] 91 (0,0)):=by
  rw[Below.heap_alloc _ _ _ (by simp;omega),Below.heap_alloc _ _ _ (by simp;omega),Below.heap_alloc _ _ _ (by simp)]
  exact heap_alloc_new w _
 have x1:((((w.alloc (.cells #[ptr bf] 91)).alloc (.cells #[.int .i64 (n:Int)] 3)).alloc (.cells #[.int .i64 (o:Int)] 3)).alloc (.cells #[.int .i64 (e:Int)] 3)).heap[w.heap.size+1]?=some (.cells #[.int .i64 (n:Int)] 3 (0,0)):=by
  rw[Below.heap_alloc _ _ _ (by simp),Below.heap_alloc _ _ _ (by simp)]
  have:=heap_alloc_new (w.alloc (.cells #[ptr bf] 91)) (.cells #[.int .i64 (n:Int)] 3)
  rwa [World.size_alloc] at this
 have x2:((((w.alloc (.cells #[ptr bf] 91)).alloc (.cells #[.int .i64 (n:Int)] 3)).alloc (.cells #[.int .i64 (o:Int)] 3)).alloc (.cells #[.int .i64 (e:Int)] 3)).heap[w.heap.size+2]?=some (.cells #[.int .i64 (o:Int)] 3 (0,0)):=by
  rw[Below.heap_alloc _ _ _ (by simp)]
  have:=heap_alloc_new ((w.alloc (.cells #[ptr bf] 91)).alloc (.cells #[.int .i64 (n:Int)] 3)) (.cells #[.int .i64 (o:Int)] 3)
  rwa [World.size_alloc,World.size_alloc] at this
 have x3:((((w.alloc (.cells #[ptr bf] 91)).alloc (.cells #[.int .i64 (n:Int)] 3)).alloc (.cells #[.int .i64 (o:Int)] 3)).alloc (.cells #[.int .i64 (e:Int)] 3)).heap[w.heap.size+3]?=some (.cells #[.int .i64 (e:Int)] 3 (0,0)):=by
  have:=heap_alloc_new (((w.alloc (.cells #[ptr bf] 91)).alloc (.cells #[.int .i64 (n:Int)] 3)).alloc (.cells #[.int .i64 (o:Int)] 3)) (.cells #[.int .i64 (e:Int)] 3)
  rwa [World.size_alloc,World.size_alloc,World.size_alloc] at this
 exact⟨_,_,_,_,rfl,Za x0 0,Za x1 0,Za x2 0,Za x3 0,⟨by omega,by omega⟩,⟨by omega,by omega⟩,⟨by omega,by omega⟩,⟨by omega,by omega⟩⟩
theorem Tryz.info237:(Tryz.prog.info? 237).map (fun i=>(i.zero,i.size,i.bytes))=some (some .nilFunc,1,8):=by kernel_rfl
theorem Tryz.info110:(Tryz.prog.info? 110).map (fun i=>(i.zero,i.size,i.bytes))=some (some .nilFunc,1,8):=by kernel_rfl
end
section
open Go.RowKit Go.Shelf
attribute [local go_sem] Oper.semAt_some
theorem Zdf {s:List Nd} (wf:WF s) {h:Nat→Nat} {B:Nat} (u:Up s h B) {F:Nat→Prop} {bf bn cap:Nat} {pn:List PN} {w:World} (hD:Zh w F bf bn cap pn s) (a b c d t n x0 x1:Nat) (ha:a < s.length) (hc:c < s.length) (hn:n < s.length) (ta:Zm s a t) (tc:Zm s c t) (tn:Zm s n t) (hb:b≤Zn s a) (hd:d≤Zn s c)
 (h0:w.cell? ⟨x0,0,none⟩=some (ptr bf)) (h1:w.heap[x1]?=some (.cells #[.int .i64 (a:Int),.int .i64 (b:Int),.int .i64 (c:Int),.int .i64 (d:Int)] 79 (0,0))) :
 Calls Tryz.prog 199 #[.int .i64 (n:Int),ptr x0,ptr x1] w fun e w'=>e=.returned (.bool (insB s (plF s (B+1) t) a b c d n))∧Below w.heap.size w w':=by
 have hcap:=wf.cap
 have l0:=World.block_lt_of_cell? w _ h0
 have l1:=Zc h1
 obtain⟨x,hx⟩:∃ x,s[n]?=some x:=⟨_,List.getElem?_eq_getElem hn⟩
 have n0:=hD.nodesCell
 have hlt:=hD.lt
 obtain⟨r,hr,ho,d0,d1,d2,d3⟩:=hD.look hx
 have hnI:(n:Int)<(s.length:Int):=by omega
 by_cases hp:0≤x.p
 · obtain⟨j,m,y,hj,hy,hm,hno,hyl⟩:=wf.place hx hp
   have hjl:j<s.length:=(List.getElem?_eq_some_iff.1 hy).1
   have CA:=hid (fun W (hB:Below w.heap.size w W)=>Zca (hD.below hB) n j m x y hx hj hy hm hno (by unfold lots;omega) (by unfold lots;omega))
   have CC:=hid (fun W (hB:Below w.heap.size w W)=>Zeq wf u (hD.below hB) a b c d j m t ha hc hjl ta tc (tn.par hx hj) hb hd (ZaA wf hy hm).2)
   rw[← ZbN hx hj hy hm hno] at CC
   rw[hj] at d0
   have hneg:((j:Int) == -1)=false:=by simp
   have c0:=Za h1 0
   have c1:=Za h1 1
   have c2:=Za h1 2
   have c3:=Za h1 3
   have HX1:=hid h1
   generalize insB s (plF s (B+1) t) a b c d n=q at *
   clear hD d1 d2 d3 hr ho hx hy hm hno h1 wf u ta tc tn hj
   have KEEP:=hid (fun W (hB:Below w.heap.size w W)=>And.intro ((hB.cell (p:=⟨x0,0,none⟩) l0).trans h0) (And.intro ((hB.cell (p:=⟨bf,0,none⟩) hlt.1).trans n0) (And.intro ((hB.cell (p:=⟨bn,n*4,none⟩) hlt.2).trans d0) (And.intro ((hB.cell (p:=⟨x1,0,none⟩) l1).trans c0) (And.intro ((hB.cell (p:=⟨x1,1,none⟩) l1).trans c1) (And.intro ((hB.cell (p:=⟨x1,2,none⟩) l1).trans c2) ((hB.cell (p:=⟨x1,3,none⟩) l1).trans c3)))))))
   go_enter Tryz.func199,Tryz.ntmps199
   go_wp2
   go_region_held3 (fun w'=>w'.cell? ⟨x0,0,none⟩=some (ptr bf)∧w'.cell? ⟨bf,0,none⟩=some (.slice (some ⟨bn,0,none⟩) s.length cap)∧w'.cell? ⟨bn,n*4,none⟩=some (.int .i64 (j:Int))∧w'.cell? ⟨x1,0,none⟩=some (.int .i64 (a:Int))∧w'.cell? ⟨x1,1,none⟩=some (.int .i64 (b:Int))∧w'.cell? ⟨x1,2,none⟩=some (.int .i64 (c:Int))∧w'.cell? ⟨x1,3,none⟩=some (.int .i64 (d:Int))) (first|exact KP2.out|exact KP1.out|go_keep) (first
    | (go_at_call 159
       refine(CC.out _ ?_).mono ?_
       · first | exact HB1.out|exact HB1.out.drew|exact Zj HB1.out _
       rintro e w2 ⟨rfl,hb2⟩
       have HB2:=hid (show Below w.heap.size w w2 from ⟨hb2.os.trans HB1.out.os,hb2.tape.trans HB1.out.tape,hb2.output.trans HB1.out.output,Nat.le_trans HB1.out.size hb2.size,fun k hk=>(hb2.block k (Nat.lt_of_lt_of_le hk HB1.out.size)).trans (HB1.out.block k hk)⟩)
       have KP2:=hid (KEEP.out _ HB2.out)
       clear hb2)
    | (go_at_call 149
       refine(CA.out _ ?_).mono ?_
       · first | exact JC _ _|exact(Below.refl _ w).drew|exact Below.refl _ w
       clear CA
       rintro e w1 ⟨rfl,hb1⟩
       have HB1:=hid (show Below w.heap.size w w1 from ⟨hb1.os,hb1.tape,hb1.output,hb1.size,hb1.block⟩)
       have KP1:=hid (KEEP.out _ HB1.out)
       clear hb1))
   all_goals
    go_wp2
    go_ret
    exact⟨rfl,HB2.out⟩
 · have hp1:x.p = -1:=by
    rcases wf.par n x hx with h|⟨j,y,h,_⟩
    · exact h
    · omega
   rw[Zdh hx (by omega)]
   rw[hp1] at d0
   clear hD d1 d2 d3 hr ho hx wf u ta tc tn
   go_enter Tryz.func199,Tryz.ntmps199
   go_wp2
   go_quiet (fail)
   go_wp2
   go_ret
   exact⟨rfl,JC _ _⟩
end
section
open Go.RowKit Go.Shelf
attribute [local go_sem] Oper.semAt_some
theorem ZiD {s:List Nd} (wf:WF s) {h:Nat→Nat} {B:Nat} (u:Up s h B) {F:Nat→Prop} {bf bn cap:Nat} {pn:List PN} {w:World} (hD:Zh w F bf bn cap pn s) (a b c d t:Nat) (ha:a < s.length) (hc:c < s.length) (ta:Zm s a t) (tc:Zm s c t) (hb:b≤Zn s a) (hd:d≤Zn s c) :
 Calls Tryz.prog 188 #[ptr bf,spV ⟨a,b,c,d⟩] w fun e w'=>∃ sa sc,e=.returned (.slice sa (ZG s (plF s (B+1) t) a b c d (allF s (B+1) t)).length sc)∧w'.ownsRow 0 3 1 (.slice sa (ZG s (plF s (B+1) t) a b c d (allF s (B+1) t)).length sc) (ZG s (plF s (B+1) t) a b c d (allF s (B+1) t)).length (Zg (ZG s (plF s (B+1) t) a b c d (allF s (B+1) t)))∧Below w.heap.size w w'∧(∀ k,(Value.slice sa (ZG s (plF s (B+1) t) a b c d (allF s (B+1) t)).length sc).ownBlock=some k→w.heap.size≤k):=by
 obtain⟨i0,hi,hz0,hz1,hz2⟩:=info_parts Tryz.infoInt
 have HD:=hid hD.narrow
 clear hD
 refine callsIn_wide.1 (callsIn_of_wp_marks (F:=Fence.wide) (n:=1) Tryz.func188 rfl trivial ?_ rfl)
 simp only[Tryz.ntmps188,List.size_toArray,List.length_cons,List.length_nil,Nat.reduceAdd,Nat.reduceSub,Array.replicate_succ,Array.replicate_zero,List.push_toArray,List.append_toArray,List.nil_append,List.cons_append]
 have C:=hid (fun (W:World)=>Jz bf t W)
 have CT:=hid (fun (W:World) (hb:Below w.heap.size w W)=>Za4 wf (HD.out.below hb) ta ha)
 have st:(store ⟨w.heap.size+1+1,0,none⟩ (.func (.func 199) #[] #[.pointer (some ⟨w.heap.size,0,none⟩),.pointer (some ⟨w.heap.size+1,0,none⟩)])).run Tryz.prog (((w.alloc (.cells #[ptr bf] 91)).alloc (.cells #[.int .i64 (a:Int),.int .i64 (b:Int),.int .i64 (c:Int),.int .i64 (d:Int)] 79)).alloc (.cells #[.nilFunc] 83)) =
  .ok () (((w.alloc (.cells #[ptr bf] 91)).alloc (.cells #[.int .i64 (a:Int),.int .i64 (b:Int),.int .i64 (c:Int),.int .i64 (d:Int)] 79)).alloc (.cells #[.func (.func 199) #[] #[.pointer (some ⟨w.heap.size,0,none⟩),.pointer (some ⟨w.heap.size+1,0,none⟩)]] 83)):=by
  have key:∀ W:World,(store ⟨W.heap.size,0,none⟩ (.func (.func 199) #[] #[.pointer (some ⟨w.heap.size,0,none⟩),.pointer (some ⟨w.heap.size+1,0,none⟩)])).run Tryz.prog (W.alloc (.cells #[.nilFunc] 83))=.ok () (W.alloc (.cells #[.func (.func 199) #[] #[.pointer (some ⟨w.heap.size,0,none⟩),.pointer (some ⟨w.heap.size+1,0,none⟩)]] 83)):=by
   intro W
   rw[run_store Tryz.prog _ _ _ _ (by rfl)]
   simp
   go_simp
  have k2:=key ((w.alloc (.cells #[ptr bf] 91)).alloc (.cells #[.int .i64 (a:Int),.int .i64 (b:Int),.int .i64 (c:Int),.int .i64 (d:Int)] 79))
  rw[World.size_alloc,World.size_alloc] at k2
  exact k2
 gi_wp2
 clear st
 obtain⟨w0,hw0⟩:∃ w0,(((w.alloc (.cells #[ptr bf] 91)).alloc (.cells #[.int .i64 (a:Int),.int .i64 (b:Int),.int .i64 (c:Int),.int .i64 (d:Int)] 79)).alloc (.cells #[.func (.func 199) #[] #[.pointer (some ⟨w.heap.size,0,none⟩),.pointer (some ⟨w.heap.size+1,0,none⟩)]] 83)).alloc (.cells #[.slice none 0 0] 24)=w0:=⟨_,rfl⟩
 have hb0:Below w.heap.size w w0:=by rw[← hw0];exact((((Below.refl _ w).alloc (Nat.le_refl _) _).alloc (by simp) _).alloc (by simp only[World.size_alloc];omega) _).alloc (by simp only[World.size_alloc];omega) _
 have hsz0:w0.heap.size=w.heap.size+4:=by rw[← hw0];simp
 have y0:w0.heap[w.heap.size]?=some (.cells #[ptr bf] 91 (0,0)):=by
  rw[← hw0,Below.heap_alloc _ _ _ (by simp only[World.size_alloc];omega),Below.heap_alloc _ _ _ (by simp only[World.size_alloc];omega),Below.heap_alloc _ _ _ (by simp),heap_alloc_new]
 have y1:w0.heap[w.heap.size+1]?=some (.cells #[.int .i64 (a:Int),.int .i64 (b:Int),.int .i64 (c:Int),.int .i64 (d:Int)] 79 (0,0)):=by
  rw[← hw0,Below.heap_alloc _ _ _ (by simp only[World.size_alloc];omega),Below.heap_alloc _ _ _ (by simp)]
  have:=heap_alloc_new (w.alloc (.cells #[ptr bf] 91)) (.cells #[.int .i64 (a:Int),.int .i64 (b:Int),.int .i64 (c:Int),.int .i64 (d:Int)] 79)
  rwa [World.size_alloc] at this
 have y2:w0.heap[w.heap.size+2]?=some (.cells #[.func (.func 199) #[] #[.pointer (some ⟨w.heap.size,0,none⟩),.pointer (some ⟨w.heap.size+1,0,none⟩)]] 83 (0,0)):=by
  rw[← hw0,Below.heap_alloc _ _ _ (by simp)]
  have:=heap_alloc_new ((w.alloc (.cells #[ptr bf] 91)).alloc (.cells #[.int .i64 (a:Int),.int .i64 (b:Int),.int .i64 (c:Int),.int .i64 (d:Int)] 79)) (.cells #[.func (.func 199) #[] #[.pointer (some ⟨w.heap.size,0,none⟩),.pointer (some ⟨w.heap.size+1,0,none⟩)]] 83)
  rwa [World.size_alloc,World.size_alloc] at this
 have y3:w0.heap[w.heap.size+3]?=some (.cells #[.slice none 0 0] 24 (0,0)):=by
  rw[← hw0]
  have:=heap_alloc_new (((w.alloc (.cells #[ptr bf] 91)).alloc (.cells #[.int .i64 (a:Int),.int .i64 (b:Int),.int .i64 (c:Int),.int .i64 (d:Int)] 79)).alloc (.cells #[.func (.func 199) #[] #[.pointer (some ⟨w.heap.size,0,none⟩),.pointer (some ⟨w.heap.size+1,0,none⟩)]] 83)) (.cells #[.slice none 0 0] 24)
  rwa [World.size_alloc,World.size_alloc,World.size_alloc] at this
 rw[hw0]
 have e0:w0.cell? ⟨w.heap.size,0,none⟩=some (ptr bf):=Za y0 0
 have e1:w0.cell? ⟨w.heap.size+1,0,none⟩=some (.int .i64 (a:Int)):=Za y1 0
 have HH:=hid (And.intro hb0 (And.intro hsz0 (And.intro y0 (And.intro y1 (And.intro y2 (And.intro y3 hw0))))))
 clear hb0 hsz0 y0 y1 y2 y3 hw0
 refine wpIn_wide.2 ?_
 go_region_held3 (fun w'=>w'.cell? ⟨w.heap.size,0,none⟩=some (ptr bf)∧w'.cell? ⟨w.heap.size+1,0,none⟩=some (.int .i64 (a:Int))) (first|exact KP.out|go_keep) (first
  | (go_at_call 99;refine(CT.out _ (by first|exact HH.out.1|exact HH.out.1.drew)).mono ?_;rintro e w3 ⟨rfl,hw3⟩;replace hw3:=hw3.symm;subst hw3)
  | (go_at_call 90;refine(C.out _).mono ?_;rintro e w3 ⟨rfl,hw3⟩;replace hw3:=hw3.symm;subst hw3))
 all_goals
  gi_wp2
  obtain⟨wb,hwb⟩:∃ wb,((w0.alloc (.cells #[ptr bf] 91)).alloc (.cells #[.int .i64 (t:Int)] 3)).drew=wb:=⟨_,rfl⟩
  obtain⟨hb0,hsz0,y0,y1,y2,y3,_⟩:=HH.out
  have hszb:wb.heap.size=w.heap.size+6:=by rw[← hwb];simp[hsz0]
  have hb1:Below w0.heap.size w0 wb:=by rw[← hwb];exact(((Below.refl _ w0).alloc (Nat.le_refl _) _).alloc (by simp) _).drew
  have hbb:Below w.heap.size w wb:=hb0.trans (hb1.mono hb0.size)
  have x0:=(hb1.block _ (Zc y0)).trans y0
  have x1:=(hb1.block _ (Zc y1)).trans y1
  have x2:=(hb1.block _ (Zc y2)).trans y2
  have x3:=(hb1.block _ (Zc y3)).trans y3
  have x4:wb.heap[w0.heap.size]?=some (.cells #[ptr bf] 91 (0,0)):=by
   have h1:((w0.alloc (.cells #[ptr bf] 91)).alloc (.cells #[.int .i64 (t:Int)] 3)).heap[w0.heap.size]?=some (.cells #[ptr bf] 91 (0,0)):=by
    rw[Below.heap_alloc _ _ _ (by simp)]
    exact heap_alloc_new w0 _
   rw[← hwb];exact h1
  have x5:wb.heap[w0.heap.size+1]?=some (.cells #[.int .i64 (t:Int)] 3 (0,0)):=by
   have h1:=heap_alloc_new (w0.alloc (.cells #[ptr bf] 91)) (.cells #[.int .i64 (t:Int)] 3)
   rw[World.size_alloc] at h1
   rw[← hwb];exact h1
  rw[hwb]
  rw[hsz0] at x4 x5
  simp only[hsz0]
  have hDb:=HD.out.below hbb
  have hHt:=u.le t
  refine J4 (gf:=138) (lb:=#[ptr (w.heap.size+4+1),ptr (w.heap.size+4)]) rfl (enters_of Tryz.func138 (by kernel_rfl) rfl) rfl (O:=fun k=>k=w.heap.size+3) (fun k e=>by omega)
   (Zad wf u (B+1) t ta.lt (by omega) wb _ _ _ hDb (fun k hk=>⟨by have:=hk.2;omega,by have:=hk.2;omega⟩) (Za x5 0) (Za x4 0) (by omega) (by omega))
   (fun pre O3 W=>∃ v,O3=(fun k=>k=w.heap.size+3∨v.ownBlock=some k)∧W.heap[w.heap.size+3]?=some (.cells #[v] 24 (0,0))∧W.ownsRow 0 3 1 v (ZG s (plF s (B+1) t) a b c d pre).length (Zg (ZG s (plF s (B+1) t) a b c d pre))∧v.ownBlock≠some (w.heap.size+3)∧Stp (fun k=>k=w.heap.size+3) O3 wb W)
   (fun _ _ _=>False) ?mI ?mIx ?h0
   (fun y=>Act.mk #[ptr bf,spV { a:=a,b:=b,c:=c,d:=d },Value.pointer (some { block:=w.heap.size,off:=0 }),
     Value.pointer (some { block:=w.heap.size+1,off:=0 }),Value.slice none 0 0,
     Value.pointer (some { block:=w.heap.size+1+1,off:=0 }),Value.pointer (some { block:=w.heap.size+1+1+1,off:=0 }),.int .i64 (y:Int),
     Value.func (Fn.func 199) #[] #[Value.pointer (some { block:=w.heap.size,off:=0 }),Value.pointer (some { block:=w.heap.size+1,off:=0 })],
     ptr bf,ptr bf,Value.pointer (some { block:=w.heap.size+1,off:=0 }),
     Value.pointer (some { block:=w.heap.size+1,off:=0 }),Value.int IntKind.i64 a,Value.int IntKind.i64 t,
     Value.func (Fn.func 138) #[] #[ptr (w.heap.size+4+1),ptr (w.heap.size+4)],.int .i64 (y:Int),undef,undef,undef,undef,undef,undef,undef,undef,undef,undef,undef,undef,undef,undef,undef,undef,undef,undef,undef,undef,undef] []) ?assign ?body ?done ?stop
  case mI =>
   rintro pre O3 X Y ⟨v,rfl,h2,h3,h4,h5⟩ hk
   exact⟨v,rfl,by rw[hk.block _ (Zc h2) (fun e=>e.1 (.inl rfl))];exact h2,hk.row h3 (fun b e e2=>e2.1 (.inr e)),h4,XW (Nat.le_refl _) h5 hk⟩
  case mIx=>intro pre O3 X Y h _;exact h
  case h0 =>
   refine⟨.slice none 0 0,?_,x3,World.ownsRow_nil _ _ _ _,by simp[Value.ownBlock],?_⟩
   · funext k;simp[Value.ownBlock]
   · exact Stp.refl (fun k e=>by omega)
  case assign =>
   intro m l' y W K hK
   dsimp only[encN]
   gi_wp2
   exact hK
  case body =>
   rintro m l' pre y O3 W hpre hO3 ⟨v,rfl,h2,h3,h4,h5⟩
   have hyall:y∈allF s (B+1) t:=hpre.subset (by simp)
   have hyl:y<s.length:=X5 wf (B+1) t ta.lt y hyall
   obtain⟨x,hx⟩:∃ x,s[y]?=some x:=⟨_,List.getElem?_eq_getElem hyl⟩
   have hty:Zm s y t:=⟨XH wf (B+1) t y hyall,ta.2⟩
   have hO3':∀ k,(k=w.heap.size+3∨v.ownBlock=some k)→¬ k<w.heap.size+3:=fun k e=>by
    rcases h5.gains k e with e1|e1 <;> omega
   have hDW:=hDb.keeps h5.keeps (fun k hk e=>by have:=hk.2;omega)
   have z0:W.heap[w.heap.size]?=some (.cells #[ptr bf] 91 (0,0)):=by
    rw[h5.keeps.block _ (Zc x0) (by simp)];exact x0
   have z1:W.heap[w.heap.size+1]?=some (.cells #[.int .i64 (a:Int),.int .i64 (b:Int),.int .i64 (c:Int),.int .i64 (d:Int)] 79 (0,0)):=by
    rw[h5.keeps.block _ (Zc x1) (by simp)];exact x1
   have z2:W.heap[w.heap.size+2]?=some (.cells #[.func (.func 199) #[] #[.pointer (some ⟨w.heap.size,0,none⟩),.pointer (some ⟨w.heap.size+1,0,none⟩)]] 83 (0,0)):=by
    rw[h5.keeps.block _ (Zc x2) (by simp)];exact x2
   have g0:W.cell? ⟨w.heap.size,0,none⟩=some (ptr bf):=Za z0 0
   have g2:W.cell? ⟨w.heap.size+1+1,0,none⟩=some (.func (.func 199) #[] #[.pointer (some ⟨w.heap.size,0,none⟩),.pointer (some ⟨w.heap.size+1,0,none⟩)]):=Za z2 0
   have g3:W.cell? ⟨w.heap.size+1+1+1,0,none⟩=some v:=Za h2 0
   obtain⟨r,hr,ho,d0,d1,d2,d3⟩:=hDW.look hx
   have n0:=hDW.nodesCell
   have hfl:=hDW.lt
   have hlW:w.heap.size+6≤W.heap.size:=by have:=h5.keeps.size;omega
   have CY:=hid (fun W2 (hB:Below W.heap.size W W2)=>Zdf wf u (hDW.below hB) a b c d t y w.heap.size (w.heap.size+1) ha hc hyl ta tc hty hb hd ((hB.cell (p:=⟨w.heap.size,0,none⟩) (by simp only;omega)).trans g0) ((hB.block _ (Zc z1)).trans z1))
   have hsn:=Zdq s (plF s (B+1) t) a b c d pre y
   have hgo:Y1 s (plF s (B+1) t) a b c d y=(insB s (plF s (B+1) t) a b c d y && !insB s (plF s (B+1) t) a b c d (Zw s y).toNat):=rfl
   obtain⟨ib,hib⟩:∃ ib,insB s (plF s (B+1) t) a b c d y=ib:=⟨_,rfl⟩
   rw[hib] at CY hgo
   have hylI:(y:Int)<(s.length:Int):=by omega
   have KEEP:=hid (fun W2 (hB:Below W.heap.size W W2)=>And.intro ((hB.cell (p:=⟨w.heap.size,0,none⟩) (by simp only;omega)).trans g0) (And.intro ((hB.cell (p:=⟨w.heap.size+1+1,0,none⟩) (by simp only;omega)).trans g2) (And.intro ((hB.cell (p:=⟨bf,0,none⟩) hfl.1).trans n0) (And.intro ((hB.cell (p:=⟨bn,y*4,none⟩) hfl.2).trans d0) ((hB.cell (p:=⟨w.heap.size+1+1+1,0,none⟩) (by simp only;omega)).trans g3)))))
   have HALL:=hid (And.intro h2 (And.intro h3 (And.intro h4 (And.intro h5 (And.intro hO3 (And.intro hO3' hsn))))))
   have HBW:=hid (Below.refl W.heap.size W)
   cases ib with
   | false =>
     rw[Bool.false_and] at hgo
     have HGO:=hid hgo
     clear h2 h3 h4 h5 hO3 hO3' hsn hDW z0 z1 z2 hr ho d1 d2 d3 hpre hyall x0 x1 x2 x3 x4 x5 hDb hb1 y0 y1 y2 y3 hb0 hwb HH HD C CT e0 e1 hgo hib hty
     gi_wp2
     refine Zd3 (fun w'=>w'.cell? ⟨w.heap.size,0,none⟩=some (ptr bf)∧w'.cell? ⟨w.heap.size+1+1,0,none⟩=some (.func (.func 199) #[] #[.pointer (some ⟨w.heap.size,0,none⟩),.pointer (some ⟨w.heap.size+1,0,none⟩)])∧w'.cell? ⟨bf,0,none⟩=some (.slice (some ⟨bn,0,none⟩) s.length cap)∧w'.cell? ⟨bn,y*4,none⟩=some (.int .i64 x.p)∧w'.cell? ⟨w.heap.size+1+1+1,0,none⟩=some v) (by kernel_rfl) (by kernel_rfl) (fun ⟨_,_,h⟩=>h) (KEEP.out _ (Below.refl _ W).drew) (fun hHeld=>?_)
     refine ZQ (i:=0) 17 (v:=(.func (.func 199) #[] #[.pointer (some ⟨w.heap.size,0,none⟩),.pointer (some ⟨w.heap.size+1,0,none⟩)])) rfl rfl (by kernel_rfl) (by kernel_rfl) (by kernel_rfl) (fun _ _ _ h=>h) (Or.inl ⟨by rfl,?_⟩) (by assumption) ?_
     · intro w2 hS2;obtain⟨t0,t1,t2,t3,t4⟩:=hS2;first|(go_simp;done)|(go_simp;with_reducible rfl)
     simp only[List.setIfInBounds_toArray,List.set_cons_zero,List.set_cons_succ]
     refine ZQ (i:=1) 18 (v:=.int .i64 (y:Int)) rfl rfl (by kernel_rfl) (by kernel_rfl) (by kernel_rfl) (fun _ _ _ h=>h) (Or.inl ⟨by rfl,?_⟩) (by assumption) ?_
     · intro w2 hS2;obtain⟨t0,t1,t2,t3,t4⟩:=hS2;first|(go_simp;done)|(go_simp;with_reducible rfl)
     simp only[List.setIfInBounds_toArray,List.set_cons_zero,List.set_cons_succ]
     refine wpAnyH_ready (rs:=[2]) (by kernel_rfl) (by simp) ?_
     refine AllReadyH.cons (i:=2) rfl (fun K hK=>?_) AllReadyH.nil
     go_simp
     refine(CY.out _ ?_).mono ?_
     · first | exact HBW.out|exact HBW.out.drew|exact Zj HBW.out _
     rintro e w6 ⟨rfl,hbx⟩
     have HB6:=hid (show Below W.heap.size W w6 from ⟨hbx.os.trans HBW.out.os,hbx.tape.trans HBW.out.tape,hbx.output.trans HBW.out.output,Nat.le_trans HBW.out.size hbx.size,fun k hk=>(hbx.block k (Nat.lt_of_lt_of_le hk HBW.out.size)).trans (HBW.out.block k hk)⟩)
     clear hbx
     dsimp only
     refine hK.out _ _ (KEEP.out _ HB6.out) (fun hHeld=>?_)
     clear hK K
     try simp only[Act.put,List.setIfInBounds_toArray,List.set_cons_zero,List.set_cons_succ]
     refine ZQ (i:=3) 20 (v:=.bool false) rfl rfl (by kernel_rfl) (by kernel_rfl) (by kernel_rfl) (fun _ _ _ h=>h) (Or.inl ⟨by rfl,?_⟩) (by assumption) ?_
     · intro w2 hS2;obtain⟨t0,t1,t2,t3,t4⟩:=hS2;first|(go_simp;done)|(go_simp;with_reducible rfl)
     simp only[List.setIfInBounds_toArray,List.set_cons_zero,List.set_cons_succ]
     refine ZQ (i:=4) 21 (v:=undef) rfl rfl (by kernel_rfl) (by kernel_rfl) (by kernel_rfl) (fun _ _ _ h=>h) (Or.inr ⟨by rfl,rfl⟩) (by assumption) ?_
     simp only[List.setIfInBounds_toArray,List.set_cons_zero,List.set_cons_succ]
     refine ZQ (i:=5) 22 (v:=undef) rfl rfl (by kernel_rfl) (by kernel_rfl) (by kernel_rfl) (fun _ _ _ h=>h) (Or.inr ⟨by rfl,rfl⟩) (by assumption) ?_
     simp only[List.setIfInBounds_toArray,List.set_cons_zero,List.set_cons_succ]
     refine ZQ (i:=6) 23 (v:=undef) rfl rfl (by kernel_rfl) (by kernel_rfl) (by kernel_rfl) (fun _ _ _ h=>h) (Or.inr ⟨by rfl,rfl⟩) (by assumption) ?_
     simp only[List.setIfInBounds_toArray,List.set_cons_zero,List.set_cons_succ]
     refine ZQ (i:=7) 24 (v:=undef) rfl rfl (by kernel_rfl) (by kernel_rfl) (by kernel_rfl) (fun _ _ _ h=>h) (Or.inr ⟨by rfl,rfl⟩) (by assumption) ?_
     simp only[List.setIfInBounds_toArray,List.set_cons_zero,List.set_cons_succ]
     refine ZQ (i:=8) 25 (v:=undef) rfl rfl (by kernel_rfl) (by kernel_rfl) (by kernel_rfl) (fun _ _ _ h=>h) (Or.inr ⟨by rfl,rfl⟩) (by assumption) ?_
     simp only[List.setIfInBounds_toArray,List.set_cons_zero,List.set_cons_succ]
     refine ZQ (i:=9) 26 (v:=undef) rfl rfl (by kernel_rfl) (by kernel_rfl) (by kernel_rfl) (fun _ _ _ h=>h) (Or.inr ⟨by rfl,rfl⟩) (by assumption) ?_
     simp only[List.setIfInBounds_toArray,List.set_cons_zero,List.set_cons_succ]
     refine ZQ (i:=10) 27 (v:=undef) rfl rfl (by kernel_rfl) (by kernel_rfl) (by kernel_rfl) (fun _ _ _ h=>h) (Or.inr ⟨by rfl,rfl⟩) (by assumption) ?_
     simp only[List.setIfInBounds_toArray,List.set_cons_zero,List.set_cons_succ]
     refine ZQ (i:=11) 28 (v:=undef) rfl rfl (by kernel_rfl) (by kernel_rfl) (by kernel_rfl) (fun _ _ _ h=>h) (Or.inr ⟨by rfl,rfl⟩) (by assumption) ?_
     simp only[List.setIfInBounds_toArray,List.set_cons_zero,List.set_cons_succ]
     refine ZQ (i:=12) 29 (v:=undef) rfl rfl (by kernel_rfl) (by kernel_rfl) (by kernel_rfl) (fun _ _ _ h=>h) (Or.inr ⟨by rfl,rfl⟩) (by assumption) ?_
     simp only[List.setIfInBounds_toArray,List.set_cons_zero,List.set_cons_succ]
     refine ZQ (i:=13) 30 (v:=undef) rfl rfl (by kernel_rfl) (by kernel_rfl) (by kernel_rfl) (fun _ _ _ h=>h) (Or.inr ⟨by rfl,rfl⟩) (by assumption) ?_
     simp only[List.setIfInBounds_toArray,List.set_cons_zero,List.set_cons_succ]
     refine ZQ (i:=14) 31 (v:=undef) rfl rfl (by kernel_rfl) (by kernel_rfl) (by kernel_rfl) (fun _ _ _ h=>h) (Or.inr ⟨by rfl,rfl⟩) (by assumption) ?_
     simp only[List.setIfInBounds_toArray,List.set_cons_zero,List.set_cons_succ]
     refine ZQ (i:=15) 32 (v:=.bool false) rfl rfl (by kernel_rfl) (by kernel_rfl) (by kernel_rfl) (fun _ _ _ h=>h) (Or.inl ⟨by rfl,?_⟩) (by assumption) ?_
     · intro w2 hS2;obtain⟨t0,t1,t2,t3,t4⟩:=hS2;first|(go_simp;done)|(go_simp;with_reducible rfl)
     simp only[List.setIfInBounds_toArray,List.set_cons_zero,List.set_cons_succ]
     refine wpAnyH_done (by kernel_rfl) ?_ _
     have hs6:Stp (fun k=>k=w.heap.size+3∨v.ownBlock=some k) (fun k=>k=w.heap.size+3∨v.ownBlock=some k) W w6:=⟨Zb.of_below HB6.out,fun k e=>.inl e,fun k e=>Nat.lt_of_lt_of_le (HALL.out.2.2.2.2.1 k e) HB6.out.size⟩
     gi_wp2
     obtain⟨h2,h3,h4,h5,hO3,hO3',hsn⟩:=HALL.out
     rw[HGO.out,if_neg (by decide),List.append_nil] at hsn
     refine⟨_,hs6,v,rfl,(HB6.out.block _ (Zc h2)).trans h2,?_,h4,h5.trans hs6⟩
     rw[hsn]
     exact(Zb.of_below (F:=fun _=>False) HB6.out).row h3 (fun _ _ e=>e)
   | true =>
     obtain⟨j,m',y',hj,hy,hm',hno,hyl'⟩:=wf.place hx (by obtain⟨x',hx',hp'⟩:=Zdg hib;rw[hx] at hx';cases hx';exact hp')
     have hjl:j<s.length:=(List.getElem?_eq_some_iff.1 hy).1
     have hpj:(Zw s y).toNat=j:=by simp[Zw,hx,hj]
     rw[hpj,Bool.true_and] at hgo
     have CJ:=hid (fun W2 (hB:Below W.heap.size W W2)=>Zdf wf u (hDW.below hB) a b c d t j w.heap.size (w.heap.size+1) ha hc hjl ta tc (hty.par hx hj) hb hd ((hB.cell (p:=⟨w.heap.size,0,none⟩) (by simp only;omega)).trans g0) ((hB.block _ (Zc z1)).trans z1))
     obtain⟨jb,hjb⟩:∃ jb,insB s (plF s (B+1) t) a b c d j=jb:=⟨_,rfl⟩
     rw[hjb] at CJ hgo
     rw[hj] at d0 KEEP
     have HGO:=hid hgo
     have HLN:Hid ((ZG s (plF s (B+1) t) a b c d pre).length+1<100):=by
      have h8:=JY s (plF s (B+1) t) a b c d pre
      have h9:=hpre.length_le
      have h7:=Yr wf (B+1) t ta.lt
      simp at h9
      show _<_
      omega
     clear h2 h3 h4 h5 hO3 hO3' hsn hDW z0 z1 z2 hr ho d1 d2 d3 hpre hyall x0 x1 x2 x3 x4 x5 hDb hb1 y0 y1 y2 y3 hb0 hwb HH HD C CT e0 e1 hgo hib hty hy hm' hno hjb hpj
     gi_wp2
     refine Zd3 (fun w'=>w'.cell? ⟨w.heap.size,0,none⟩=some (ptr bf)∧w'.cell? ⟨w.heap.size+1+1,0,none⟩=some (.func (.func 199) #[] #[.pointer (some ⟨w.heap.size,0,none⟩),.pointer (some ⟨w.heap.size+1,0,none⟩)])∧w'.cell? ⟨bf,0,none⟩=some (.slice (some ⟨bn,0,none⟩) s.length cap)∧w'.cell? ⟨bn,y*4,none⟩=some (.int .i64 (j:Int))∧w'.cell? ⟨w.heap.size+1+1+1,0,none⟩=some v) (by kernel_rfl) (by kernel_rfl) (fun ⟨_,_,h⟩=>h) (KEEP.out _ (Below.refl _ W).drew) (fun hHeld=>?_)
     refine ZQ (i:=0) 17 (v:=(.func (.func 199) #[] #[.pointer (some ⟨w.heap.size,0,none⟩),.pointer (some ⟨w.heap.size+1,0,none⟩)])) rfl rfl (by kernel_rfl) (by kernel_rfl) (by kernel_rfl) (fun _ _ _ h=>h) (Or.inl ⟨by rfl,?_⟩) (by assumption) ?_
     · intro w2 hS2;obtain⟨t0,t1,t2,t3,t4⟩:=hS2;first|(go_simp;done)|(go_simp;with_reducible rfl)
     simp only[List.setIfInBounds_toArray,List.set_cons_zero,List.set_cons_succ]
     refine ZQ (i:=1) 18 (v:=.int .i64 (y:Int)) rfl rfl (by kernel_rfl) (by kernel_rfl) (by kernel_rfl) (fun _ _ _ h=>h) (Or.inl ⟨by rfl,?_⟩) (by assumption) ?_
     · intro w2 hS2;obtain⟨t0,t1,t2,t3,t4⟩:=hS2;first|(go_simp;done)|(go_simp;with_reducible rfl)
     simp only[List.setIfInBounds_toArray,List.set_cons_zero,List.set_cons_succ]
     refine wpAnyH_ready (rs:=[2]) (by kernel_rfl) (by simp) ?_
     refine AllReadyH.cons (i:=2) rfl (fun K hK=>?_) AllReadyH.nil
     go_simp
     refine(CY.out _ ?_).mono ?_
     · first | exact HBW.out|exact HBW.out.drew|exact Zj HBW.out _
     rintro e w6 ⟨rfl,hbx⟩
     have HB6:=hid (show Below W.heap.size W w6 from ⟨hbx.os.trans HBW.out.os,hbx.tape.trans HBW.out.tape,hbx.output.trans HBW.out.output,Nat.le_trans HBW.out.size hbx.size,fun k hk=>(hbx.block k (Nat.lt_of_lt_of_le hk HBW.out.size)).trans (HBW.out.block k hk)⟩)
     clear hbx
     dsimp only
     refine hK.out _ _ (KEEP.out _ HB6.out) (fun hHeld=>?_)
     clear hK K
     try simp only[Act.put,List.setIfInBounds_toArray,List.set_cons_zero,List.set_cons_succ]
     refine ZQ (i:=3) 20 (v:=.bool true) rfl rfl (by kernel_rfl) (by kernel_rfl) (by kernel_rfl) (fun _ _ _ h=>h) (Or.inl ⟨by rfl,?_⟩) (by assumption) ?_
     · intro w2 hS2;obtain⟨t0,t1,t2,t3,t4⟩:=hS2;first|(go_simp;done)|(go_simp;with_reducible rfl)
     simp only[List.setIfInBounds_toArray,List.set_cons_zero,List.set_cons_succ]
     refine ZQ (i:=4) 21 (v:=(.func (.func 199) #[] #[.pointer (some ⟨w.heap.size,0,none⟩),.pointer (some ⟨w.heap.size+1,0,none⟩)])) rfl rfl (by kernel_rfl) (by kernel_rfl) (by kernel_rfl) (fun _ _ _ h=>h) (Or.inl ⟨by rfl,?_⟩) (by assumption) ?_
     · intro w2 hS2;obtain⟨t0,t1,t2,t3,t4⟩:=hS2;first|(go_simp;done)|(go_simp;with_reducible rfl)
     simp only[List.setIfInBounds_toArray,List.set_cons_zero,List.set_cons_succ]
     refine ZQ (i:=5) 22 (v:=ptr bf) rfl rfl (by kernel_rfl) (by kernel_rfl) (by kernel_rfl) (fun _ _ _ h=>h) (Or.inl ⟨by rfl,?_⟩) (by assumption) ?_
     · intro w2 hS2;obtain⟨t0,t1,t2,t3,t4⟩:=hS2;first|(go_simp;done)|(go_simp;with_reducible rfl)
     simp only[List.setIfInBounds_toArray,List.set_cons_zero,List.set_cons_succ]
     refine ZQ (i:=6) 23 (v:=ptr bf) rfl rfl (by kernel_rfl) (by kernel_rfl) (by kernel_rfl) (fun _ _ _ h=>h) (Or.inl ⟨by rfl,?_⟩) (by assumption) ?_
     · intro w2 hS2;obtain⟨t0,t1,t2,t3,t4⟩:=hS2;first|(go_simp;done)|(go_simp;with_reducible rfl)
     simp only[List.setIfInBounds_toArray,List.set_cons_zero,List.set_cons_succ]
     refine ZQ (i:=7) 24 (v:=.pointer (some ⟨bf,0,none⟩)) rfl rfl (by kernel_rfl) (by kernel_rfl) (by kernel_rfl) (fun _ _ _ h=>h) (Or.inl ⟨by rfl,?_⟩) (by assumption) ?_
     · intro w2 hS2;obtain⟨t0,t1,t2,t3,t4⟩:=hS2;first|(go_simp;done)|(go_simp;with_reducible rfl)
     simp only[List.setIfInBounds_toArray,List.set_cons_zero,List.set_cons_succ]
     refine ZQ (i:=8) 25 (v:=.slice (some ⟨bn,0,none⟩) s.length cap) rfl rfl (by kernel_rfl) (by kernel_rfl) (by kernel_rfl) (fun _ _ _ h=>h) (Or.inl ⟨by rfl,?_⟩) (by assumption) ?_
     · intro w2 hS2;obtain⟨t0,t1,t2,t3,t4⟩:=hS2;first|(go_simp;done)|(go_simp;with_reducible rfl)
     simp only[List.setIfInBounds_toArray,List.set_cons_zero,List.set_cons_succ]
     refine ZQ (i:=9) 26 (v:=.int .i64 (y:Int)) rfl rfl (by kernel_rfl) (by kernel_rfl) (by kernel_rfl) (fun _ _ _ h=>h) (Or.inl ⟨by rfl,?_⟩) (by assumption) ?_
     · intro w2 hS2;obtain⟨t0,t1,t2,t3,t4⟩:=hS2;first|(go_simp;done)|(go_simp;with_reducible rfl)
     simp only[List.setIfInBounds_toArray,List.set_cons_zero,List.set_cons_succ]
     refine ZQ (i:=10) 27 (v:=.pointer (some ⟨bn,y*4,none⟩)) rfl rfl (by kernel_rfl) (by kernel_rfl) (by kernel_rfl) (fun _ _ _ h=>h) (Or.inl ⟨by rfl,?_⟩) (by assumption) ?_
     · intro w2 hS2;obtain⟨t0,t1,t2,t3,t4⟩:=hS2;first|(go_simp;done)|(go_simp;with_reducible rfl)
     simp only[List.setIfInBounds_toArray,List.set_cons_zero,List.set_cons_succ]
     refine ZQ (i:=11) 28 (v:=.pointer (some ⟨bn,y*4,none⟩)) rfl rfl (by kernel_rfl) (by kernel_rfl) (by kernel_rfl) (fun _ _ _ h=>h) (Or.inl ⟨by rfl,?_⟩) (by assumption) ?_
     · intro w2 hS2;obtain⟨t0,t1,t2,t3,t4⟩:=hS2;first|(go_simp;done)|(go_simp;with_reducible rfl)
     simp only[List.setIfInBounds_toArray,List.set_cons_zero,List.set_cons_succ]
     refine ZQ (i:=12) 29 (v:=.int .i64 (j:Int)) rfl rfl (by kernel_rfl) (by kernel_rfl) (by kernel_rfl) (fun _ _ _ h=>h) (Or.inl ⟨by rfl,?_⟩) (by assumption) ?_
     · intro w2 hS2;obtain⟨t0,t1,t2,t3,t4⟩:=hS2;first|(go_simp;done)|(go_simp;with_reducible rfl)
     simp only[List.setIfInBounds_toArray,List.set_cons_zero,List.set_cons_succ]
     refine wpAnyH_ready (rs:=[13]) (by kernel_rfl) (by simp) ?_
     refine AllReadyH.cons (i:=13) rfl (fun K hK=>?_) AllReadyH.nil
     go_simp
     refine(CJ.out _ ?_).mono ?_
     · first | exact HB6.out|exact HB6.out.drew|exact Zj HB6.out _
     rintro e w7 ⟨rfl,hbx⟩
     have HB7:=hid (show Below W.heap.size W w7 from ⟨hbx.os.trans HB6.out.os,hbx.tape.trans HB6.out.tape,hbx.output.trans HB6.out.output,Nat.le_trans HB6.out.size hbx.size,fun k hk=>(hbx.block k (Nat.lt_of_lt_of_le hk HB6.out.size)).trans (HB6.out.block k hk)⟩)
     clear hbx
     dsimp only
     refine hK.out _ _ (KEEP.out _ HB7.out) (fun hHeld=>?_)
     clear hK K
     try simp only[Act.put,List.setIfInBounds_toArray,List.set_cons_zero,List.set_cons_succ]
     refine ZQ (i:=14) 31 (v:=.bool (!jb)) rfl rfl (by kernel_rfl) (by kernel_rfl) (by kernel_rfl) (fun _ _ _ h=>h) (Or.inl ⟨by rfl,?_⟩) (by assumption) ?_
     · intro w2 hS2;obtain⟨t0,t1,t2,t3,t4⟩:=hS2;first|(go_simp;done)|(go_simp;with_reducible rfl)
     simp only[List.setIfInBounds_toArray,List.set_cons_zero,List.set_cons_succ]
     refine ZQ (i:=15) 32 (v:=.bool (!jb)) rfl rfl (by kernel_rfl) (by kernel_rfl) (by kernel_rfl) (fun _ _ _ h=>h) (Or.inl ⟨by rfl,?_⟩) (by assumption) ?_
     · intro w2 hS2;obtain⟨t0,t1,t2,t3,t4⟩:=hS2;first|(go_simp;done)|(go_simp;with_reducible rfl)
     simp only[List.setIfInBounds_toArray,List.set_cons_zero,List.set_cons_succ]
     refine wpAnyH_done (by kernel_rfl) ?_ _
     obtain⟨t0,t1,t2,t3,t4⟩:=KEEP.out _ HB7.out
     have hs7:Stp (fun k=>k=w.heap.size+3∨v.ownBlock=some k) (fun k=>k=w.heap.size+3∨v.ownBlock=some k) W w7:=⟨Zb.of_below HB7.out,fun k e=>.inl e,fun k e=>Nat.lt_of_lt_of_le (HALL.out.2.2.2.2.1 k e) HB7.out.size⟩
     cases jb with
     | true =>
       simp only[Bool.not_true]
       gi_wp2
       obtain⟨h2,h3,h4,h5,hO3,hO3',hsn⟩:=HALL.out
       rw[HGO.out,Bool.not_true,if_neg (by decide),List.append_nil] at hsn
       refine⟨_,hs7,v,rfl,(HB7.out.block _ (Zc h2)).trans h2,?_,h4,h5.trans hs7⟩
       rw[hsn]
       exact(Zb.of_below (F:=fun _=>False) HB7.out).row h3 (fun _ _ e=>e)
     | false =>
       simp only[Bool.not_false]
       have H2:=hid ((HB7.out.block _ (Zc HALL.out.1)).trans HALL.out.1)
       have H3:=hid ((Zb.of_below (F:=fun _=>False) HB7.out).row HALL.out.2.1 (fun _ _ e=>e))
       have hlW7:w.heap.size+3<w7.heap.size:=Zc H2.out
       have hll:(ZG s (plF s (B+1) t) a b c d pre).length+1<100:=HLN.out
       have H4:=hid HALL.out.2.2.1
       have HS7:=hid hs7
       clear hs7
       gi_wp2_with (gi_at_builtin;refine wpListIn_append_own_at _ rfl _ _ 24 rfl 0 3 i0 (.int .i64 0) 1 8 Tryz.underlying24 hi hz0 hz1 hz2 rfl (by decide) v _ _ rfl (H3.out.alloc _) ⟨w7.heap.size,0,none⟩ 1 1 [.int .i64 (y:Int)] rfl rfl (cell_one_new _ _ _) (by simp[Value.oneCell']) (by unfold maxLen;omega) (by omega) (Nat.zero_le _) ?_
                    intro v' w1 hown' hgrow _ hob
                    obtain⟨g',cap',rfl⟩:=ownsRow_succ hown'
                    have hq1:=(hgrow.block (w.heap.size+3) (by simp only[World.size_alloc];omega) (fun e=>H4.out e.symm)).trans ((Below.heap_alloc _ _ _ hlW7).trans H2.out)
                    have hc1:w1.cell? ⟨w.heap.size+1+1+1,0,none⟩=some v:=Za hq1 0
                    have hf1:w1.frozen? ⟨w.heap.size+1+1+1,0,none⟩=false:=Zd hq1 0
                    have HQ:=hid hq1
                    have HW:=hid hown'
                    have HG:=hid hgrow
                    have HOB:=hid hob
                    clear hown' hgrow hob hq1)
       obtain⟨h2,h3,h4,h5,hO3,hO3',hsn⟩:=HALL.out
       rw[HGO.out,Bool.not_false,if_pos rfl] at hsn
       have hz7:=HS7.out.keeps.size
       have hgb:v.ownBlock=some g'∨w7.heap.size≤g':=by
        rcases HOB.out with e|e
        · left;rw[← e];rfl
        · right
          have e':g'=w7.heap.size+1:=by simpa[Value.ownBlock] using e
          omega
       have hg':g'≠w.heap.size+3:=by
        rcases hgb with e|e
        · rintro rfl;exact h4 e
        · omega
       have hs:Stp (fun k=>k=w.heap.size+3∨v.ownBlock=some k) (fun k=>k=w.heap.size+3∨(Value.slice (some ⟨g',0,none⟩) ((ZG s (plF s (B+1) t) a b c d pre).length+1) cap').ownBlock=some k) W (w1.setCell ⟨w.heap.size+1+1+1,0,none⟩ (.slice (some ⟨g',0,none⟩) ((ZG s (plF s (B+1) t) a b c d pre).length+1) cap')):=by
        refine⟨?_,?_,?_⟩
        · exact((((Zb.of_below HB7.out).alloc _).trans (Zb.grown HG.out (fun k e=>.inl (.inl (.inr e))))).setCell (p:=⟨w.heap.size+1+1+1,0,none⟩) (.inl (.inl rfl)) _)
        · rintro k (e|e)
          · exact .inl (.inl e)
          · have e':g'=k:=by simpa[Value.ownBlock] using e
            subst e'
            rcases hgb with e|e
            · exact .inl (.inr e)
            · exact .inr (by omega)
        · have hz:(w1.setCell ⟨w.heap.size+1+1+1,0,none⟩ (.slice (some ⟨g',0,none⟩) ((ZG s (plF s (B+1) t) a b c d pre).length+1) cap')).heap.size=w1.heap.size:=by simp
          rintro k (e|e)
          · rw[hz,e];exact Zc HQ.out
          · have e':g'=k:=by simpa[Value.ownBlock] using e
            subst e'
            rw[hz]
            exact(HW.out.lt g' rfl).2
       refine⟨_,hs,_,rfl,by rw[heap_setCell_same w1 _ 0 _ _ _ HQ.out];rfl,?_,by simpa[Value.ownBlock] using hg',h5.trans hs⟩
       have hrw:=XV HW.out (p:=⟨w.heap.size+1+1+1,0,none⟩) (by simpa[Value.ownBlock] using hg') (.slice (some ⟨g',0,none⟩) ((ZG s (plF s (B+1) t) a b c d pre).length+1) cap')
       rw[hsn,List.length_append]
       simpa[Zg] using hrw
  case done =>
   rintro O5 W st5 hn5 ⟨v,rfl,h2,h3,h4,h5⟩ hD5
   obtain⟨sa,sc,hkv⟩:∃ a' c',v=.slice a' (ZG s (plF s (B+1) t) a b c d (allF s (B+1) t)).length c':=by
    rcases ZB h3 with ⟨e1,e2⟩|⟨g,c,e1⟩
    · exact⟨none,0,by rw[e1,e2]⟩
    · exact⟨_,_,e1⟩
   subst hkv
   have f1:W.cell? ⟨w.heap.size+1+1+1,0,none⟩=some (.slice sa (ZG s (plF s (B+1) t) a b c d (allF s (B+1) t)).length sc):=Za h2 0
   have H:=hid (And.intro st5 (And.intro hn5 (And.intro h3 (And.intro h4 hD5))))
   have HZ:=hid hszb
   clear st5 hn5 h2 h3 h4 h5 hD5 x0 x1 x2 x3 x4 x5 hszb hDb hb1 y0 y1 y2 y3 hb0 hwb
   gi_wp2
   obtain⟨st5,hn5,h3,h4,hD5⟩:=H.out
   have hszb:=HZ.out
   refine Y9 [wb.heap.size] _ (by simp) (fun D hm=>?_) (fun w' hk'=>⟨.slice sa (ZG s (plF s (B+1) t) a b c d (allF s (B+1) t)).length sc,?_,sa,sc,rfl,?_,?_,?_⟩)
   · obtain rfl:D=wb.heap.size:=by simpa using hm
     exact hD5
   · exact results_tmp (fn:=Tryz.f188) (t:=4) rfl _ _ _
   · refine hk'.row h3 (fun k e e2=>?_)
     have:k=wb.heap.size:=by simpa using e2
     subst this
     exact hn5 (.inr e)
   · have k1:Zb (fun _=>False) w wb:=Zb.of_below hbb
     have k2:Zb (fun _=>False) w W:=k1.trans (st5.keeps.mono (fun k _ e=>.inr (by omega)))
     exact(k2.trans (hk'.mono (fun k _ e=>.inr (by simp at e;omega)))).below
   · intro k e
     rcases st5.gains k (.inr e) with e1|e1
     · omega
     · omega
  case stop =>
   rintro O5 pre W hpre st5 hn5 h hD5
   exact h.elim
end
end Go.Proofs.YtabogkonklplcaaGreatDoor
