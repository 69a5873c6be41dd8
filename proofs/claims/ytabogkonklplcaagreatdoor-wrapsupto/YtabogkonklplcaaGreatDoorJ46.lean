import Derived.Test.YtabogkonklplcaaGreatDoorJ36
import Derived.Test.YtabogkonklplcaaGreatDoorJ35
import Derived.Test.YtabogkonklplcaaGreatDoorJ38
import Derived.Test.YtabogkonklplcaaGreatDoorJ24
import Derived.Test.YtabogkonklplcaaGreatDoorJ39
import Derived.Test.YtabogkonklplcaaGreatDoorJ18
import Derived.Test.YtabogkonklplcaaGreatDoorJ41
import Derived.Test.YtabogkonklplcaaGreatDoorJ28
import Derived.Test.YtabogkonklplcaaGreatDoorJ45
import Derived.Test.YtabogkonklplcaaGreatDoorJ23
import Derived.Test.YtabogkonklplcaaGreatDoorJ34
import Derived.Test.YtabogkonklplcaaGreatDoorJ20
import Derived.Lib.LaidU8T
import Derived.PinnedBridge
import Derived.Test.YtabogkonklplcaaGreatDoorJ40
import Derived.Test.YtabogkonklplcaaGreatDoorJ25
import Derived.Test.YtabogkonklplcaaGreatDoorJ19
import Derived.BigQuiet
import Derived.Stop.RegionWithIn
import Derived.Deep.RegionHeld3
import Derived.Test.YtabogkonklplcaaGreatDoorJ13
namespace Go.Proofs.YtabogkonklplcaaGreatDoor
set_option linter.unusedSimpArgs false
set_option linter.unusedVariables false
set_option maxRecDepth 20000
set_option maxHeartbeats 8000000
section
open Go.RowKit Go.Lib
theorem ZiV {V:List Nd→Sp→Prop} (hV:Yq V) (s:List Nd) (wf:WF s) (rs:List Sp) (h6:rs.length≤6) (hrs:∀ z∈rs,V s z):∃ n:Int,Ans (Z7 V) GG ⟨s,rs⟩ 52 73 [] (fun v=>.tuple #[.int .i64 n,v]) (fun v=>.tuple #[.int .i64 n,v]):=by
 by_cases h40:s.length<40
 · refine⟨s.length,0,0,⟨s++[Z5],rs⟩,⟨Jr wf h40 Z5 rfl rfl (fun _=>rfl) ⟨by decide,fun c hc=>by cases hc⟩,h6,fun z hz=>hV.push Z5 wf (Jr wf h40 Z5 rfl rfl (fun _=>rfl) ⟨by decide,fun c hc=>by cases hc⟩) rfl (hrs z hz)⟩,?_,?_⟩
   · intro w F bx hg hP
     exact ZdE hg hP (X7 0) (fun F' bf h=>Zir h h40)
   · rintro w F bd ⟨bn,cap,rn,rv,hD⟩
     exact(Zhm hD h40).mono fun e w' h=>h
 · refine⟨0,0,7,⟨s,rs⟩,⟨wf,h6,hrs⟩,?_,?_⟩
   · intro w F bx hg hP
     exact ZdE hg hP (Yi 0 7 (by decide)) (fun F' bf h=>Ziq h (by omega))
   · intro w F bd hR
     have hR':=hR
     obtain⟨bn,cap,rn,rv,hD⟩:=hR
     exact(Zhl (s:=s) hD (by omega)).mono fun e w' ⟨h1,h2⟩=>⟨h1,Zb.of_below h2,hR'.afterR h2⟩
theorem Zi6 {V:List Nd→Sp→Prop} (hV:Yq V) (s:List Nd) (wf:WF s) (rs:List Sp) (h6:rs.length≤6) (hrs:∀ z∈rs,V s z) (t:ByteArray) (ht:t.size < lots):∃ n:Int,Ans (Z7 V) GG ⟨s,rs⟩ 53 74 [.string t] (fun v=>.tuple #[.int .i64 n,v]) (fun v=>.tuple #[.int .i64 n,v]):=by
 by_cases hk:∃ l,Takes t l
 · obtain⟨l,hl⟩:=hk
   by_cases h40:s.length<40
   · refine⟨s.length,0,0,⟨s++[⟨true,l,[],-1⟩],rs⟩,⟨Jr wf h40 _ rfl rfl (fun h=>by cases h) ⟨hl.2,JI t.size t l (Nat.le_refl _) hl.1⟩,h6,fun z hz=>hV.push _ wf (Jr wf h40 _ rfl rfl (fun h=>by cases h) ⟨hl.2,JI t.size t l (Nat.le_refl _) hl.1⟩) rfl (hrs z hz)⟩,?_,?_⟩
     · intro w F bx hg hP
       exact ZdO hg hP t (X7 0) (fun F' bf h=>ZiM h hg.2 t ht l hl h40)
     · rintro w F bd ⟨bn,cap,rn,rv,hD⟩
       exact(ZhP hD t ht l hl.1 hl.2 h40).mono fun e w' h=>h
   · refine⟨0,0,7,⟨s,rs⟩,⟨wf,h6,hrs⟩,?_,?_⟩
     · intro w F bx hg hP
       exact ZdO hg hP t (Yi 0 7 (by decide)) (fun F' bf h=>ZiL h hg.2 t ht l hl (by omega))
     · intro w F bd hR
       have hR':=hR
       obtain⟨bn,cap,rn,rv,hD⟩:=hR
       exact(ZhN (s:=s) hD t ht l hl.1 hl.2 (by omega)).mono fun e w' ⟨h1,h2⟩=>⟨h1,Zb.of_below h2,hR'.afterR h2⟩
 · refine⟨0,0,6,⟨s,rs⟩,⟨wf,h6,hrs⟩,?_,?_⟩
   · intro w F bx hg hP
     exact ZgF hg hP t (fun F' bf h=>ttext_no h hg.2 t ht (fun l hl=>hk ⟨l,hl⟩))
   · intro w F bd hR
     have hR':=hR
     obtain⟨bn,cap,rn,rv,hD⟩:=hR
     cases hc:Zr t with
     | none=>exact(rtext_no hD t ht hc).mono fun e w' ⟨h1,h2⟩=>⟨h1,Zb.of_below h2,hR'.afterR h2⟩
     | some l =>
       have h30:30<l.length:=by
        rcases Nat.lt_or_ge 30 l.length with h|h
        · exact h
        · exact absurd ⟨l,hc,h⟩ hk
       exact(ZhO hD t ht l hc h30).mono fun e w' ⟨h1,h2⟩=>⟨h1,Zb.of_below h2,hR'.afterR h2⟩
theorem Zi2 {V:List Nd→Sp→Prop} (hV:Yq V) (s:List Nd) (wf:WF s) (rs:List Sp) (h6:rs.length≤6) (hrs:∀ z∈rs,V s z) (A:Int):∃ b:ByteArray,Ans (Z7 V) GG ⟨s,rs⟩ 55 77 [.int .i64 A] (fun v=>.tuple #[.string b,v]) (fun v=>.tuple #[.string b,v]):=by
 cases hA:isB s A with
 | false =>
   refine⟨⟨#[]⟩,A,1,⟨s,rs⟩,⟨wf,h6,hrs⟩,?_,?_⟩
   · intro w F bx hg hP
     exact ZdK hg hP A (Yi A 1 (by decide)) (fun F' bf h=>tshow_no h A hA)
   · intro w F bd hR
     have hR':=hR
     obtain⟨bn,cap,rn,rv,hD⟩:=hR
     exact(rshow_no hD A hA).mono fun e w' ⟨h1,h2⟩=>⟨h1,Zb.of_below h2,hR'.afterR h2⟩
 | true =>
   obtain⟨h1,h2⟩:=Y2 hA
   obtain⟨i,rfl⟩:∃ i:Nat,A=(i:Int):=⟨A.toNat,by omega⟩
   have hi:i<s.length:=by omega
   obtain⟨h,H,u⟩:=wf.up
   have hl:=Zb7 wf u (k:=h i+1) (n:=i) (by omega)
   refine⟨Yd s (h i+1) i,0,0,⟨s,rs⟩,⟨wf,h6,hrs⟩,?_,?_⟩
   · intro w F bx hg hP
     exact ZdK hg hP i (X7 0) (fun F' bf h=>ZiG wf h i hi _ hl)
   · intro w F bd hR
     have hR':=hR
     obtain⟨bn,cap,rn,rv,hD⟩:=hR
     exact(ZhJ wf hD i hi _ hl).mono fun e w' ⟨h1,h2⟩=>⟨h1,Zb.of_below h2,hR'.afterR h2⟩
end
section
open Go.RowKit Go.Lib
theorem Zi0 {V:List Nd→Sp→Prop} (hV:Yq V) (s:List Nd) (wf:WF s) (rs:List Sp) (h6:rs.length≤6) (hrs:∀ z∈rs,V s z) (A:Int):Ans (Z7 V) GG ⟨s,rs⟩ 60 76 [.int .i64 A] (fun v=>v) (fun v=>v):=by
 have hcap:=wf.cap
 cases hA:isB s A with
 | false =>
   refine⟨A,1,⟨s,rs⟩,⟨wf,h6,hrs⟩,?_,?_⟩
   · intro w F bx hg hP
     exact ZdJ hg hP A (Yi A 1 (by decide)) (fun F' bf h=>ZiE h A hA)
   · intro w F bd hR
     have hR':=hR
     obtain⟨bn,cap,rn,rv,hD⟩:=hR
     exact(ZhD hD A hA).mono fun e w' ⟨h1,h2⟩=>⟨h1,Zb.of_below h2,hR'.afterR h2⟩
 | true =>
   obtain⟨h1,h2⟩:=Y2 hA
   obtain⟨i,rfl⟩:∃ i:Nat,A=(i:Int):=⟨A.toNat,by omega⟩
   have hi:i<s.length:=by omega
   obtain⟨x,hx⟩:∃ x,s[i]?=some x:=⟨_,List.getElem?_eq_getElem hi⟩
   by_cases hp:0≤x.p
   · obtain⟨j,m,y,hj,hy,hm,hno,hyl⟩:=wf.place hx hp
     obtain⟨hij,hwf⟩:=Zch wf hx hj hy hm
     obtain⟨hh2,HH2,u2⟩:=hwf.up
     obtain⟨hh,HH,u⟩:=wf.up
     have hall:=Zdd wf u hx hj hy hm hij hwf u2
     have hlim:=Zde wf u hx hj hy hm hij hwf u2
     refine⟨0,0,⟨_,rs.map (mvSp (Zz (allF ((s.set j { y with ks:=y.ks.take m++y.ks.drop (m+1) }).set i { x with p:=-1 }) (hh2 i+1) i) j m (Ze j m (-1))))⟩,⟨hwf,by simpa using h6,mapV hrs (fun z hz=>hV.remove _ wf hx hj hy hm hno hij hall hz)⟩,?_,?_⟩
     · intro w F bx hg hP
       exact ZgD hg hP (Small.of wf (fun z hz=>hV.place (hrs z hz))) h6 i (fun F' bf h=>ZeA h i j m x y hx hj hy hm hno hij (by unfold lots;omega) (by unfold lots;omega) hwf u2)
     · rintro w F bd ⟨bn,cap,rn,rv,hD⟩
       exact(Zea hD u i j m x y hx hj hy hm hno (by unfold lots;omega) hij _ hlim wf (fun z hz=>hV.place (hrs z hz)) h6).mono fun e w' h=>h
   · have hp1:x.p = -1:=by
      rcases wf.par i x hx with h|⟨j,y,h,_⟩
      · exact h
      · omega
     refine⟨i,4,⟨s,rs⟩,⟨wf,h6,hrs⟩,?_,?_⟩
     · intro w F bx hg hP
       exact ZdJ hg hP i (Yi i 4 (by decide)) (fun F' bf h=>ZiF h i x hx hp1 (by unfold lots;omega))
     · intro w F bd hR
       have hR':=hR
       obtain⟨bn,cap,rn,rv,hD⟩:=hR
       exact(ZhE hD i x hx (by omega)).mono fun e w' ⟨h1,h2⟩=>⟨h1,Zb.of_below h2,hR'.afterR h2⟩
end
section
open Go.RowKit
section
variable {w:World} {F:Nat→Prop} {bd bn cap:Nat} {rn:List RN} {rv:Value} {s:List Nd} {rs:List Sp}
theorem ZhH (hD:Zf w F bd bn cap rn rv s rs) (n k:Nat) (c:Int) (x:Nd) (hx:s[n]?=some x) (ht:x.t=true) (hlen:x.cs.length≤30) (hk:k≤x.cs.length) (hc:0≤c) (t:ByteArray) (hts:t.size < lots) (l:List ByteArray) (h:Zr t=some l) (cm:Nat) (hcm0:cm=(min c ((x.cs.length:Int) - k)).toNat) (hl:x.cs.length - cm+l.length≤30) (hbig:l.length < lots) (hsm:Small rs) (h6:rs.length≤6) :
 Calls Tryz.prog 78 #[.pointer (some ⟨bd,0,none⟩),.int .i64 n,.int .i64 k,.int .i64 c,.string t] w fun e w'=>e=.returned (Zi 0 0)∧Zb F w w'∧RDoc w' (fun b=>F b∨w.heap.size≤b) bd (s.set n { x with cs:=x.cs.take k++l++x.cs.drop (k+cm) }) (rs.map (mvSp (Zl n k cm l.length))):=by
 have hn:n<s.length:=(List.getElem?_eq_some_iff.1 hx).1
 have CF:=hid (XX (hD.below (Z1 w)) n k x hx ht hk)
 have h1b:((0:Int) == 0)=true:=rfl
 have h0:=hD.nodesCell
 have hlt:=hD.lt
 obtain⟨r,hr,ho,-,hc1,-,-⟩:=hD.look hx
 obtain⟨ca,cc,hcv⟩:=Zo ho.chars
 rw[hcv] at hc1
 have hcb:decide (c<0)=false:=decide_eq_false (by omega)
 have hkI:(k:Int)≤(x.cs.length:Int):=by omega
 have hlI:(x.cs.length:Int)≤30:=by omega
 have HTB:=hid (Z1 w)
 have HT:=hid hts
 have HC:=hid h
 have HBIG:=hid hbig
 have HN:=hid hD.narrow
 have HSM:=hid hsm
 clear hsm
 have HX:=hid hx
 unfold lots at hbig
 clear hr ho hcv hx ht
 have key:∀ cm:Nat,(c≤(x.cs.length:Int) - k∧(cm:Int)=c∨(x.cs.length:Int) - k<c∧(cm:Int)=(x.cs.length:Int) - k)→cm=(min c ((x.cs.length:Int) - k)).toNat:=fun cm h=>by omega
 by_cases hcm:(x.cs.length:Int) - k<c
 · have hcd:decide ((x.cs.length:Int) - k<c)=true:=decide_eq_true hcm
   have hcmI:(cm:Int)=(x.cs.length:Int) - k:=by omega
   have hLd:decide ((30:Int)<(x.cs.length:Int) - ((x.cs.length:Int) - k)+l.length)=false:=decide_eq_false (by omega)
   clear hD
   go_enter Tryz.func78,Tryz.ntmps78
   go_wp2_with (first
   | (go_at_call 123;refine CF.out.mono ?_;rintro e w1 ⟨rfl,hb1⟩
      have hq2:w1.heap[w.heap.size]?=some (.cells #[.int .i64 0,.int .i64 0] 32 (0,0)):=by
       rw[hb1.block _ (by simp)]
       exact heap_alloc_new w _
      have hs1:w.heap.size+1≤w1.heap.size:=by have:=hb1.size;simpa using this
      have HB1:=hid (HTB.out.trans (hb1.mono HTB.out.size))
      have HQ2:=hid hq2
      clear hb1 hq2)
   | (go_at_call 124;refine(Zy 0 0 _).mono ?_;rintro e w2 ⟨rfl,hb2⟩
      have hf2:w2.heap[w1.heap.size]?=some (.cells #[.int .i64 0,.int .i64 0] 32 (0,0)):=(hb2.block _ (by simp)).trans (heap_alloc_new w1 _)
      have hz2:w2.heap[w.heap.size]?=some (.cells #[.int .i64 0,.int .i64 0] 32 (0,0)) :=
       (hb2.block _ (by simp;omega)).trans ((((Below.refl _ w1).alloc (Nat.le_refl _) _).block _ (by omega)).trans HQ2.out)
      have cf0:w2.cell? ⟨w1.heap.size,0,none⟩=some (.int .i64 0):=Za hf2 0
      have cf1:w2.cell? ⟨w1.heap.size,1,none⟩=some (.int .i64 0):=Za hf2 1
      have cz0:w2.cell? ⟨w.heap.size,0,none⟩=some (.int .i64 0):=Za hz2 0
      have cz1:w2.cell? ⟨w.heap.size,1,none⟩=some (.int .i64 0):=Za hz2 1
      have fz0:=Zd hz2 0
      have fz1:=Zd hz2 1
      have HB2:=hid ((HB1.out.alloc HB1.out.size _).trans (hb2.mono (Nat.le_trans HB1.out.size (by simp))))
      have hs2:w.heap.size+1≤w2.heap.size:=by have:=hb2.size;simp at this;omega
      clear hb2 hf2
      have d0:=(HB2.out.cell (p:=⟨bd,0,none⟩) hlt.1).trans h0
      have dc1:=(HB2.out.cell (p:=⟨bn,n*4+1,none⟩) hlt.2).trans hc1
      have HZ:=hid hz2
      clear hz2 HQ2 HB1
      rw[h1b])
   | (go_at_call 115;refine(XJ t _ HT.out l HC.out).mono ?_;rintro e w3 ⟨v3,rfl,ho3,hb3⟩
      obtain⟨a3,c3,hv3⟩:=Zo ho3
      subst hv3
      have hz3:w3.heap[w.heap.size]?=some (.cells #[.int .i64 0,.int .i64 0] 32 (0,0)):=(hb3.block _ (Zc HZ.out)).trans HZ.out
      have cz0':w3.cell? ⟨w.heap.size,0,none⟩=some (.int .i64 0):=Za hz3 0
      have cz1':w3.cell? ⟨w.heap.size,1,none⟩=some (.int .i64 0):=Za hz3 1
      have fz0':=Zd hz3 0
      have fz1':=Zd hz3 1
      have hs3:w.heap.size+1≤w3.heap.size:=by have:=hb3.size;omega
      have HB3:=hid (HB2.out.trans (hb3.mono HB2.out.size))
      have HZ3:=hid hz3
      have CR:=hid (J5 (HN.out.below HB3.out) n k cm x HX.out hlen (by omega) _ l HBIG.out (Ji ho3) HSM.out h6 (by omega))
      clear hb3 hz3 ho3)
   | (go_at_call 125
      (first | rw[← hcmI]|skip)
      refine CR.out.mono ?_
      rintro e w4 ⟨rfl,hk4,hr4⟩
      have hz4:=(hk4.block _ (Zc HZ3.out) (fun e=>Nat.lt_irrefl _ e.2)).trans HZ3.out
      have cz0'':w4.cell? ⟨w.heap.size,0,none⟩=some (.int .i64 0):=Za hz4 0
      have cz1'':w4.cell? ⟨w.heap.size,1,none⟩=some (.int .i64 0):=Za hz4 1
      have fz0'':=Zd hz4 0
      have fz1'':=Zd hz4 1
      have hs4:=Zc hz4
      have HK4:=hid hk4
      have HR4:=hid hr4
      clear hk4 hr4 hz4))
   refine bodyPost_ret (v:=Zi 0 0) (by simp[results,Tryz.results78,go_sem,cz0'',cz1'',fz0'',fz1'',hs4]) rfl ?_
   have hk5:Zb (fun b=>F b∧b<w.heap.size) w w4:=(Zb.of_below HB3.out).trans (HK4.out.mono (fun b _ e=>.inl e))
   have hk6:Zb (fun b=>b=w.heap.size) w4 ((w4.setCell ⟨w.heap.size,0,none⟩ (.int .i64 0)).setCell ⟨w.heap.size,1,none⟩ (.int .i64 0)):=((Zb.refl (fun b=>b=w.heap.size) w4).setCell (p:=⟨w.heap.size,0,none⟩) (.inl rfl) _).setCell (p:=⟨w.heap.size,1,none⟩) (.inl rfl) _
   obtain⟨bn4,cap4,rn4,rv4,hD4⟩:=HR4.out.keeps hk6 (fun b e e2=>by rcases e with e|e <;> omega)
   have hk7:Zb F w w4:=hk5.mono (fun b _ e=>e.1)
   refine⟨rfl,(hk7.setCell (p:=⟨w.heap.size,0,none⟩) (.inr (Nat.le_refl _)) _).setCell (p:=⟨w.heap.size,1,none⟩) (.inr (Nat.le_refl _)) _,bn4,cap4,rn4,rv4,hD4.wider (fun b e=>?_)⟩
   rcases e with e|e
   · exact .inl e.1
   · exact .inr (by omega)
 · have hcd:decide ((x.cs.length:Int) - k<c)=false:=decide_eq_false hcm
   have hcmI:(cm:Int)=c:=by omega
   have hLd:decide ((30:Int)<(x.cs.length:Int) - c+l.length)=false:=decide_eq_false (by omega)
   have hcI:c≤30:=by omega
   clear hD
   go_enter Tryz.func78,Tryz.ntmps78
   go_wp2_with (first
   | (go_at_call 123;refine CF.out.mono ?_;rintro e w1 ⟨rfl,hb1⟩
      have hq2:w1.heap[w.heap.size]?=some (.cells #[.int .i64 0,.int .i64 0] 32 (0,0)):=by
       rw[hb1.block _ (by simp)]
       exact heap_alloc_new w _
      have hs1:w.heap.size+1≤w1.heap.size:=by have:=hb1.size;simpa using this
      have HB1:=hid (HTB.out.trans (hb1.mono HTB.out.size))
      have HQ2:=hid hq2
      clear hb1 hq2)
   | (go_at_call 124;refine(Zy 0 0 _).mono ?_;rintro e w2 ⟨rfl,hb2⟩
      have hf2:w2.heap[w1.heap.size]?=some (.cells #[.int .i64 0,.int .i64 0] 32 (0,0)):=(hb2.block _ (by simp)).trans (heap_alloc_new w1 _)
      have hz2:w2.heap[w.heap.size]?=some (.cells #[.int .i64 0,.int .i64 0] 32 (0,0)) :=
       (hb2.block _ (by simp;omega)).trans ((((Below.refl _ w1).alloc (Nat.le_refl _) _).block _ (by omega)).trans HQ2.out)
      have cf0:w2.cell? ⟨w1.heap.size,0,none⟩=some (.int .i64 0):=Za hf2 0
      have cf1:w2.cell? ⟨w1.heap.size,1,none⟩=some (.int .i64 0):=Za hf2 1
      have cz0:w2.cell? ⟨w.heap.size,0,none⟩=some (.int .i64 0):=Za hz2 0
      have cz1:w2.cell? ⟨w.heap.size,1,none⟩=some (.int .i64 0):=Za hz2 1
      have fz0:=Zd hz2 0
      have fz1:=Zd hz2 1
      have HB2:=hid ((HB1.out.alloc HB1.out.size _).trans (hb2.mono (Nat.le_trans HB1.out.size (by simp))))
      have hs2:w.heap.size+1≤w2.heap.size:=by have:=hb2.size;simp at this;omega
      clear hb2 hf2
      have d0:=(HB2.out.cell (p:=⟨bd,0,none⟩) hlt.1).trans h0
      have dc1:=(HB2.out.cell (p:=⟨bn,n*4+1,none⟩) hlt.2).trans hc1
      have HZ:=hid hz2
      clear hz2 HQ2 HB1
      rw[h1b])
   | (go_at_call 115;refine(XJ t _ HT.out l HC.out).mono ?_;rintro e w3 ⟨v3,rfl,ho3,hb3⟩
      obtain⟨a3,c3,hv3⟩:=Zo ho3
      subst hv3
      have hz3:w3.heap[w.heap.size]?=some (.cells #[.int .i64 0,.int .i64 0] 32 (0,0)):=(hb3.block _ (Zc HZ.out)).trans HZ.out
      have cz0':w3.cell? ⟨w.heap.size,0,none⟩=some (.int .i64 0):=Za hz3 0
      have cz1':w3.cell? ⟨w.heap.size,1,none⟩=some (.int .i64 0):=Za hz3 1
      have fz0':=Zd hz3 0
      have fz1':=Zd hz3 1
      have hs3:w.heap.size+1≤w3.heap.size:=by have:=hb3.size;omega
      have HB3:=hid (HB2.out.trans (hb3.mono HB2.out.size))
      have HZ3:=hid hz3
      have CR:=hid (J5 (HN.out.below HB3.out) n k cm x HX.out hlen (by omega) _ l HBIG.out (Ji ho3) HSM.out h6 (by omega))
      clear hb3 hz3 ho3)
   | (go_at_call 125
      (first | rw[← hcmI]|skip)
      refine CR.out.mono ?_
      rintro e w4 ⟨rfl,hk4,hr4⟩
      have hz4:=(hk4.block _ (Zc HZ3.out) (fun e=>Nat.lt_irrefl _ e.2)).trans HZ3.out
      have cz0'':w4.cell? ⟨w.heap.size,0,none⟩=some (.int .i64 0):=Za hz4 0
      have cz1'':w4.cell? ⟨w.heap.size,1,none⟩=some (.int .i64 0):=Za hz4 1
      have fz0'':=Zd hz4 0
      have fz1'':=Zd hz4 1
      have hs4:=Zc hz4
      have HK4:=hid hk4
      have HR4:=hid hr4
      clear hk4 hr4 hz4))
   refine bodyPost_ret (v:=Zi 0 0) (by simp[results,Tryz.results78,go_sem,cz0'',cz1'',fz0'',fz1'',hs4]) rfl ?_
   have hk5:Zb (fun b=>F b∧b<w.heap.size) w w4:=(Zb.of_below HB3.out).trans (HK4.out.mono (fun b _ e=>.inl e))
   have hk6:Zb (fun b=>b=w.heap.size) w4 ((w4.setCell ⟨w.heap.size,0,none⟩ (.int .i64 0)).setCell ⟨w.heap.size,1,none⟩ (.int .i64 0)):=((Zb.refl (fun b=>b=w.heap.size) w4).setCell (p:=⟨w.heap.size,0,none⟩) (.inl rfl) _).setCell (p:=⟨w.heap.size,1,none⟩) (.inl rfl) _
   obtain⟨bn4,cap4,rn4,rv4,hD4⟩:=HR4.out.keeps hk6 (fun b e e2=>by rcases e with e|e <;> omega)
   have hk7:Zb F w w4:=hk5.mono (fun b _ e=>e.1)
   refine⟨rfl,(hk7.setCell (p:=⟨w.heap.size,0,none⟩) (.inr (Nat.le_refl _)) _).setCell (p:=⟨w.heap.size,1,none⟩) (.inr (Nat.le_refl _)) _,bn4,cap4,rn4,rv4,hD4.wider (fun b e=>?_)⟩
   rcases e with e|e
   · exact .inl e.1
   · exact .inr (by omega)
end
end
section
open Go.RowKit Go.Lib
theorem Zi1 {V:List Nd→Sp→Prop} (hV:Yq V) (s:List Nd) (wf:WF s) (rs:List Sp) (h6:rs.length≤6) (hrs:∀ z∈rs,V s z) (A B C:Int) (t:ByteArray) (hts:t.size < lots):Ans (Z7 V) GG ⟨s,rs⟩ 34 78 [.int .i64 A,.int .i64 B,.int .i64 C,.string t] (fun v=>v) (fun v=>v):=by
 have hcap:=wf.cap
 cases hA:isB s A with
 | false =>
   refine⟨A,1,⟨s,rs⟩,⟨wf,h6,hrs⟩,?_,?_⟩
   · intro w F bx hg hP
     refine J2 hg hP A B C t (fun F' bf h=>?_)
     have h':=h
     obtain⟨bn,cap,pn,h⟩:=h
     exact(ZeC h' A B C t _ (Zc6 h A hA)).mono fun e w' hh=>⟨_,_,Yi A 1 (by decide),hh⟩
   · intro w F bd hR
     have hR':=hR
     obtain⟨bn,cap,rn,rv,hD⟩:=hR
     exact(Zb2 A B C t A 1 (by decide) (Zew (hD.below (Z1 w)) A B hA)).mono fun e w' ⟨h1,h2⟩=>hR'.unchangedR h2 h1
 | true =>
   obtain⟨h1,h2⟩:=Y2 hA
   obtain⟨n,rfl⟩:∃ n:Nat,A=(n:Int):=⟨A.toNat,by omega⟩
   have hn:n<s.length:=by omega
   obtain⟨x,hx⟩:∃ x,s[n]?=some x:=⟨_,List.getElem?_eq_getElem hn⟩
   have hch:=wf.chars n x hx
   have hl':x.cs.length<lots:=by unfold lots;omega
   cases ht:x.t with
   | false =>
     refine⟨n,2,⟨s,rs⟩,⟨wf,h6,hrs⟩,?_,?_⟩
     · intro w F bx hg hP
       refine J2 hg hP n B C t (fun F' bf h=>?_)
       have h':=h
       obtain⟨bn,cap,pn,h⟩:=h
       exact(ZeC h' n B C t _ (Zc5 h n x hx ht)).mono fun e w' hh=>⟨_,_,Yi n 2 (by decide),hh⟩
     · intro w F bd hR
       have hR':=hR
       obtain⟨bn,cap,rn,rv,hD⟩:=hR
       exact(Zb2 n B C t n 2 (by decide) (Zev (hD.below (Z1 w)) n B x hx ht)).mono fun e w' ⟨h1,h2⟩=>hR'.unchangedR h2 h1
   | true =>
     by_cases hB:B<0∨(x.cs.length:Int)<B
     · refine⟨n,3,⟨s,rs⟩,⟨wf,h6,hrs⟩,?_,?_⟩
       · intro w F bx hg hP
         refine J2 hg hP n B C t (fun F' bf h=>?_)
         refine(Zce h n B C t x hx ht (Q:=fun u=>u=outV B) (fun w1 _=>(Zh3 x.cs hch.2 hl' B C hB t w1).mono fun e w' hh=>⟨⟨_,_,rfl,hh.1⟩,hh.2⟩)).mono ?_
         rintro e w' ⟨u,rfl,hh⟩
         exact⟨_,_,JO n B,hh⟩
       · intro w F bd hR
         have hR':=hR
         obtain⟨bn,cap,rn,rv,hD⟩:=hR
         exact(Zb2 n B C t n 3 (by decide) (Zeu (hD.below (Z1 w)) n B x hx ht hB)).mono fun e w' ⟨h1,h2⟩=>hR'.unchangedR h2 h1
     · obtain⟨o,rfl⟩:∃ o:Nat,B=(o:Int):=⟨B.toNat,by omega⟩
       have ho:o≤x.cs.length:=by omega
       by_cases hC:C<0
       · refine⟨n,3,⟨s,rs⟩,⟨wf,h6,hrs⟩,?_,?_⟩
         · intro w F bx hg hP
           refine J2 hg hP n o C t (fun F' bf h=>?_)
           refine(Zce h n o C t x hx ht (Q:=fun u=>u=outV C) (fun w1 _=>(Zh0 x.cs hch.2 hl' o ho C hC t w1).mono fun e w' hh=>⟨⟨_,_,rfl,hh.1⟩,hh.2⟩)).mono ?_
           rintro e w' ⟨u,rfl,hh⟩
           exact⟨_,_,JO n C,hh⟩
         · intro w F bd hR
           have hR':=hR
           obtain⟨bn,cap,rn,rv,hD⟩:=hR
           exact(ZhG n o C t hC (XX (hD.below (Z1 w)) n o x hx ht ho)).mono fun e w' ⟨h1,h2⟩=>hR'.unchangedR h2 h1
       · obtain⟨cm,hcm⟩:∃ cm:Nat,cm=(min C ((x.cs.length:Int) - o)).toNat:=⟨_,rfl⟩
         have hcl:o+cm≤x.cs.length:=by omega
         have em:30 - o - (x.cs.length - (o+cm))=30 - (x.cs.length - cm):=by omega
         by_cases hY:∃ lf,YE (30 - o - (x.cs.length - (o+cm))) t lf
         · obtain⟨lf,hlf⟩:=hY
           have hlf30:lf.length≤30:=by have:=hlf.2;omega
           have hsum:x.cs.length - cm+lf.length≤30:=by have:=hlf.2;omega
           have hcs:(x.cs.take o++lf++x.cs.drop (o+cm)).length≤30∧∀ c∈x.cs.take o++lf++x.cs.drop (o+cm),IsCh c:=by
            refine⟨by simp;omega,fun c hc=>?_⟩
            rcases List.mem_append.1 hc with hc|hc
            · rcases List.mem_append.1 hc with hc|hc
              · exact hch.2 c (List.mem_of_mem_take hc)
              · exact JI t.size t lf (Nat.le_refl _) hlf.1 c hc
            · exact hch.2 c (List.mem_of_mem_drop hc)
           refine⟨0,0,⟨_,rs.map (mvSp (Zl n o cm lf.length))⟩,⟨Zaa wf hx ht hcs,by simpa using h6,mapV hrs (fun z hz=>hV.replace wf hx ht hcl (Zaa wf hx ht hcs) hz)⟩,?_,?_⟩
           · intro w F bx hg hP
             refine ZgE hg hP (Small.of wf (fun z hz=>hV.place (hrs z hz))) h6 n o C t (fun F' bf h=>?_)
             have hmin:min C ((x.cs.length:Int) - o)=(cm:Int):=by omega
             have hT:=ZeB h n o C t x hx ht hch.1 hch.2 ho lf (x.cs.take o++lf++x.cs.drop (o+cm)) hlf.1 hlf30 (by omega) (fun w1 hb=>?_)
             · rw[hmin] at hT
               exact hT
             have hT:=hg.2.below hb
             by_cases hbig:(x.cs.length:Int) - o<C
             · exact Zh4 x.cs hch.2 hch.1 o cm C ho (by omega) (by omega) hbig t hts lf hlf w1 hT
             · exact Zen x.cs hch.2 hch.1 o cm C ho (by omega) (by omega) hcl t hts lf hlf w1 hT
           · rintro w F bd ⟨bn,cap,rn,rv,hD⟩
             exact(ZhH hD n o C x hx ht hch.1 ho (by omega) t hts lf hlf.1 cm hcm hsum (by unfold lots;omega) (Small.of wf (fun z hz=>hV.place (hrs z hz))) h6).mono fun e w' h=>h
         · have hN:∀ l',¬ YE (30 - o - (x.cs.length - (o+cm))) t l':=fun l' h=>hY ⟨l',h⟩
           refine⟨n,6,⟨s,rs⟩,⟨wf,h6,hrs⟩,?_,?_⟩
           · intro w F bx hg hP
             refine J2 hg hP n o C t (fun F' bf h=>?_)
             refine(Zce h n o C t x hx ht (Q:=fun u=>∃ k,u=Je k) (fun w1 hb=>?_)).mono ?_
             · have hT:=hg.2.below hb
               by_cases hbig:(x.cs.length:Int) - o<C
               · exact(Zh1 x.cs hch.2 hch.1 o cm C ho (by omega) (by omega) hbig t hts hN w1 hT).mono fun e w' ⟨k,h1,h2⟩=>⟨⟨_,_,⟨k,rfl⟩,h1⟩,h2⟩
               · exact(Zh2 x.cs hch.2 hch.1 o cm C ho (by omega) (by omega) hcl t hts hN w1 hT).mono fun e w' ⟨k,h1,h2⟩=>⟨⟨_,_,⟨k,rfl⟩,h1⟩,h2⟩
             · rintro e w' ⟨u,⟨k,rfl⟩,hh⟩
               exact⟨_,_,ZcR n k,hh⟩
           · intro w F bd hR
             have hR':=hR
             obtain⟨bn,cap,rn,rv,hD⟩:=hR
             cases hc:Zr t with
             | none=>exact(ZhF hD n o C x hx ht hch.1 ho (by omega) t hts hc).mono fun e w' ⟨h1,h2⟩=>hR'.unchangedR h2 h1
             | some lf =>
               have h30:30<x.cs.length - (min C ((x.cs.length:Int) - o)).toNat+lf.length:=by
                rw[← hcm]
                rcases Nat.lt_or_ge 30 (x.cs.length - cm+lf.length) with h|h
                · exact h
                · exact absurd ⟨hc,by omega⟩ (hN lf)
               exact(ZhI hD n o C x hx ht hch.1 ho (by omega) t hts lf hc h30 (by have:=Zff t lf hc;omega)).mono fun e w' ⟨h1,h2⟩=>hR'.unchangedR h2 h1
end
section
open Go.RowKit
theorem ZdT {s:List Nd} {a b:Int} (h:PlOk s a b):Zs s a b=(0,0):=by
 obtain⟨n,k,rfl,rfl,hn,hk⟩:=h
 have hb:isB s (n:Int)=true:=ZC (by omega)
 simp[Zs,hb,hk]
theorem Za6 {s:List Nd} (wf:WF s) {n t:Nat} (ht:Zm s n t) (hn:n < s.length):∃ l,Way s t n l:=by
 obtain⟨⟨m,hm⟩,x,hx,hp⟩:=ht
 have key:∀ (m n:Nat),n<s.length→climb s m n=(t:Int)→∃ l,Way s t n l:=by
  intro m
  induction m with
  | zero =>
    intro n hn h
    have:n=t:=by simp[climb] at h;omega
    subst this
    exact⟨[],.top⟩
  | succ m ih =>
    intro n hn h
    have hx:=List.getElem?_eq_getElem hn
    rcases wf.par n _ hx with hp|⟨i,y,hp,hy,hc⟩
    · exfalso
      have h1:climb s 1 n = -1:=by simp[climb,Zw,hx,hp]
      have h2:=XL (s:=s) (j:=1) (n:=n) (by rw[h1];decide) m
      rw[Nat.add_comm] at h2
      omega
    · have h1:climb s 1 n=(i:Int):=by simp[climb,Zw,hx,hp]
      have h2:=YG h1 m
      rw[Nat.add_comm] at h2
      rw[h2] at h
      obtain⟨l,wl⟩:=ih i (List.getElem?_eq_some_iff.1 hy).1 h
      obtain⟨k,hk,e⟩:=List.mem_iff_getElem.1 hc
      exact⟨l++[k],.down wl hy (by rw[List.getElem?_eq_getElem hk,e])⟩
 exact key m n hn hm
end
section
open Go.RowKit Go.Lib
theorem ZiY {V:List Nd→Sp→Prop} (hV:Yq V) (s:List Nd) (wf:WF s) (rs:List Sp) (h6:rs.length≤6) (hrs:∀ z∈rs,V s z):∃ n:Int,Ans (Z7 V) GG ⟨s,rs⟩ 56 81 [] (fun v=>.tuple #[.int .i64 n,v]) (fun v=>.tuple #[.int .i64 n,v]):=by
 by_cases h:rs.length<6
 · refine⟨rs.length,0,0,⟨s,rs++[⟨0,0,0,0⟩]⟩,⟨wf,by simp;omega,fun z hz=>?_⟩,?_,?_⟩
   · rcases List.mem_append.1 hz with hz|hz
     · exact hrs z hz
     · simp at hz
       rw[hz]
       exact hV.fresh wf
   · intro w F bx hg hP
     exact ZgC hg hP h
   · rintro w F bd ⟨bn,cap,rn,rv,hD⟩
     exact(ZhC hD h).mono fun e w' h=>h
 · refine⟨0,0,7,⟨s,rs⟩,⟨wf,h6,hrs⟩,?_,?_⟩
   · intro w F bx hg hP
     exact ZgB hg hP (by omega)
   · intro w F bd hR
     have hR':=hR
     obtain⟨bn,cap,rn,rv,hD⟩:=hR
     exact(ZhB hD (show 6≤rs.length by omega)).mono fun e w' ⟨h1,h2⟩=>hR'.unchangedR h2 h1
theorem Zi3 {V:List Nd→Sp→Prop} (hV:Yq V) (s:List Nd) (wf:WF s) (rs:List Sp) (h6:rs.length≤6) (hrs:∀ z∈rs,V s z) (A:Int):∃ a0 a1 b0 b1:Int,Ans (Z7 V) GG ⟨s,rs⟩ 36 84 [.int .i64 A] (fun v=>.tuple #[.agg #[.int .i64 a0,.int .i64 a1,.int .i64 b0,.int .i64 b1],v]) (fun v=>.tuple #[.agg #[.int .i64 a0,.int .i64 a1,.int .i64 b0,.int .i64 b1],v]):=by
 by_cases hA:A<0∨(rs.length:Int)≤A
 · refine⟨0,0,0,0,A,8,⟨s,rs⟩,⟨wf,h6,hrs⟩,?_,?_⟩
   · intro w F bx hg hP
     exact ZdL hg hP A ⟨0,0,0,0⟩ _ (.inr ⟨_,_,rfl⟩) (JN A) (fun W bf bl sv h=>J0 h A hA)
   · intro w F bd hR
     have hR':=hR
     obtain⟨bn,cap,rn,rv,hD⟩:=hR
     exact(rspan_no hD A hA).mono fun e w' ⟨h1,h2⟩=>hR'.unchangedR h2 h1
 · obtain⟨r,rfl⟩:∃ r:Nat,A=(r:Int):=⟨A.toNat,by omega⟩
   obtain⟨x,hx⟩:∃ x,rs[r]?=some x:=⟨_,List.getElem?_eq_getElem (by omega)⟩
   refine⟨x.a,x.b,x.c,x.d,0,0,⟨s,rs⟩,⟨wf,h6,hrs⟩,?_,?_⟩
   · intro w F bx hg hP
     exact ZdL hg hP r x _ (.inl rfl) (X7 0) (fun W bf bl sv h=>J1 h r x hx)
   · intro w F bd hR
     have hR':=hR
     obtain⟨bn,cap,rn,rv,hD⟩:=hR
     exact(rspan_ok hD r x hx).mono fun e w' ⟨h1,h2⟩=>hR'.unchangedR h2 h1
theorem ZdV {s:List Nd} (wf:WF s) (n k a y:Int) (hf:Zs s n k=(a,y)) (hy:y≠0) :
 ∃ u,Z2 (.iface 145 u) a y∧(∀ W,Calls Tryz.prog 22 #[.iface 145 u,.iface 30 (.int .i64 9)] W fun e w'=>e=.returned (.bool false)∧Below W.heap.size W w')∧∀ (W:World) (F:Nat→Prop) (bf bn cap:Nat) (pn:List PN),Zh W F bf bn cap pn s→Calls Tryz.prog 98 #[ptr bf,.agg #[.int .i64 n,.int .i64 k]] W fun e w'=>e=.returned (.iface 145 u)∧Below W.heap.size W w':=by
 cases hb:isB s n with
 | false =>
   have e:Zs s n k=(n,1):=by simp[Zs,hb]
   rw[e] at hf
   cases hf
   exact⟨_,Yi n 1 (by decide),fun W=>Zdp n 1 9 (fun w=>by kernel_rfl) W,fun W F bf bn cap pn h=>ZdX h n k hb⟩
 | true =>
   obtain⟨h1,h2⟩:=Y2 hb
   obtain⟨m,rfl⟩:∃ m:Nat,n=(m:Int):=⟨n.toNat,by omega⟩
   have hm:m<s.length:=by omega
   obtain⟨x,hx⟩:∃ x,s[m]?=some x:=⟨_,List.getElem?_eq_getElem hm⟩
   have hch:=wf.chars m x hx
   by_cases hk:k<0∨(ZI x:Int)<k
   · have e:Zs s m k=((m:Int),3):=by simp[Zs,hb,ZE hx,hk]
     rw[e] at hf
     cases hf
     cases ht:x.t with
     | true =>
       rw[Yl ht] at hk
       exact⟨_,JO m k,fun W=>Zf8 m k W,fun W F bf bn cap pn h=>ZdZ h m k x hx ht hch.2 (by unfold lots;omega) hk⟩
     | false =>
       rw[Yg ht] at hk
       exact⟨_,Yi m 3 (by decide),fun W=>Zdp m 3 9 (fun w=>by kernel_rfl) W,fun W F bf bn cap pn h=>ZdW h m k x hx ht hk⟩
   · have e:Zs s m k=(0,0):=by simp[Zs,hb,ZE hx,hk]
     rw[e] at hf
     cases hf
     exact absurd rfl hy
theorem Zi5 {V:List Nd→Sp→Prop} (hV:Yq V) (s:List Nd) (wf:WF s) (rs:List Sp) (h6:rs.length≤6) (hrs:∀ z∈rs,V s z) (A p0 p1:Int):Ans (Z7 V) GG ⟨s,rs⟩ 31 82 [.int .i64 A,.agg #[.int .i64 p0,.int .i64 p1]] (fun v=>v) (fun v=>v):=by
 by_cases hA:A<0∨(rs.length:Int)≤A
 · refine⟨A,8,⟨s,rs⟩,⟨wf,h6,hrs⟩,?_,?_⟩
   · intro w F bx hg hP
     exact ZdN hg hP A p0 p1 (JN A) (fun W bf bl sv h=>Zgq h A p0 p1 hA)
   · intro w F bd hR
     have hR':=hR
     obtain⟨bn,cap,rn,rv,hD⟩:=hR
     exact(Zed A p0 p1 A 8 (fun W hb=>Zeb (hD.below hb) A p0 p1 _ hA)).mono fun e w' ⟨h1,h2⟩=>hR'.unchangedR h2 h1
 · obtain⟨r,rfl⟩:∃ r:Nat,A=(r:Int):=⟨A.toNat,by omega⟩
   have hr:r<rs.length:=by omega
   obtain⟨x,hx⟩:∃ x,rs[r]?=some x:=⟨_,List.getElem?_eq_getElem hr⟩
   have hpx:=(hV.place (hrs x (List.mem_of_getElem? hx))).2
   have hfx:=ZdT hpx
   obtain⟨n2,k2,hxa,hxb,hn2,hk2,hg0,PB⟩:=Jk wf x.c x.d 0 0 hfx rfl
   obtain⟨f0,f1,hf⟩:∃ a y,Zs s p0 p1=(a,y):=⟨_,_,rfl⟩
   by_cases h1:f1=0
   · obtain⟨n,k,rfl,rfl,hn,hk,hf0,PA⟩:=Jk wf p0 p1 f0 f1 hf h1
     have htf:∀ m,∃ t,m<s.length→Zm s m t:=fun m=>by
      by_cases hm:m<s.length
      · obtain⟨t,ht⟩:=XC wf m hm;exact⟨t,fun _=>ht⟩
      · exact⟨0,fun h=>absurd h hm⟩
     obtain⟨tf,htf⟩:=Classical.axiomOfChoice htf
     obtain⟨h,B,u⟩:=wf.up
     have hone:∀ z∈rs.set r ⟨(n:Int),(k:Int),(n:Int),(k:Int)⟩,V s z:=fun z hz=>by
      rcases List.mem_or_eq_of_mem_set hz with hz|hz
      · exact hrs z hz
      · rw[hz];exact hV.one wf ⟨n,k,rfl,rfl,hn,hk⟩
     by_cases he:tf n=tf n2
     · obtain⟨qa,ha⟩:=Jt (plF s (B+1) (tf n2)) (n2,k2)
       obtain⟨qb,hb⟩:=Jt (plF s (B+1) (tf n2)) (n,k)
       have key:∀ (l l2:List Nat),Way s (tf n) n l→Way s (tf n) n2 l2→lexC (l++[k]) (l2++[k2])=if qb<qa then -1 else if qa<qb then 1 else 0:=fun l l2 wa wb =>
        XM wf u wa wb (by first|exact hk|exact hk2) (by first|exact hk|exact hk2) (by rw[he];exact hb) (by rw[he];exact ha)
       by_cases hlt:qa<qb
       · refine⟨0,0,⟨s,rs.set r ⟨(n:Int),(k:Int),(n:Int),(k:Int)⟩⟩,⟨wf,by simpa using h6,hone⟩,?_,?_⟩
         · intro w F bx hg hP
           refine ZbR hP r n k (fun W bf bl sv hD=>?_)
           refine(ZaE hD r x hx n k .nilIface (.inl rfl) (Q:=fun W0 w'=>Zb F W0 w'∧Zk w' (grow F W0) bx bf bl sv ⟨s,rs.set r ⟨n,k,n,k⟩⟩) (fun W0 hb0=>?_)).mono ?_
           · refine Zdz (hD.below hb0) r x hx _ _ _ _ n k 1 (by decide) (fun W1 hb1=>?_)
             have hfor:=((hD.below hb0).below hb1).nodes
             have hf':=hfor
             obtain⟨bn,cap,pn,h⟩:=hfor
             rw[hxa,hxb]
             refine(J8 wf hf' n k n2 k2 tf htf hn hn2 he (fun W hb=>PA W _ bf bn cap pn (h.below hb)) (fun W hb=>PB W _ bf bn cap pn (h.below hb))).mono ?_
             rintro e w' ⟨l,l2,wa,wb,rfl,hbl⟩
             refine⟨?_,hbl⟩
             rw[key l l2 wa wb,if_neg (by omega),if_pos hlt]
           · rintro e w' ⟨rfl,W0,hb0,hk0,hd0⟩
             exact⟨rfl,(Zb.of_below hb0).trans (hk0.mono (fun b _ e=>.inl e)),hd0.widen (fun b h=>h.imp id (fun h=>Nat.le_trans hb0.size h))⟩
         · intro w F bd hR
           exact(Zb5 hR r n k (fun W G ⟨bn,cap,rn,rv,hD⟩=>rset_t2 wf u hD r x hx n k n2 k2 hxa hxb tf htf hn hn2 hf0 he qa qb ha hb (decide_eq_true hlt))).mono fun e w' h=>h
       · refine⟨0,0,⟨s,rs.set r ⟨n,k,n2,k2⟩⟩,⟨wf,by simpa using h6,fun z hz=>?_⟩,?_,?_⟩
         · rcases List.mem_or_eq_of_mem_set hz with hz|hz
           · exact hrs z hz
           · rw[hz]
             have hstart:PlOk s (n:Int) (k:Int):=⟨n,k,rfl,rfl,by first|exact hn|exact hn2,by first|exact hk|exact hk2⟩
             have hend:PlOk s (n2:Int) (k2:Int):=⟨n2,k2,rfl,rfl,by first|exact hn|exact hn2,by first|exact hk|exact hk2⟩
             have ts:=htf n (by first|exact hn|exact hn2)
             have te:=htf n2 (by first|exact hn|exact hn2)
             rw[← he] at te
             obtain⟨l,wl⟩:=Za6 wf ts (by first|exact hn|exact hn2)
             obtain⟨l2,wl2⟩:=Za6 wf te (by first|exact hn|exact hn2)
             refine hV.two wf hstart hend ts wl wl2 ?_
             rw[key l l2 wl wl2]
             split
             · decide
             · first | decide|(rw[if_neg hlt];decide)
         · intro w F bx hg hP
           refine ZbR hP r n k (fun W bf bl sv hD=>?_)
           refine(ZaE hD r x hx n k .nilIface (.inl rfl) (Q:=fun W0 w'=>Zb F W0 w'∧Zk w' (grow F W0) bx bf bl sv ⟨s,rs.set r ⟨n,k,n2,k2⟩⟩) (fun W0 hb0=>?_)).mono ?_
           · have hcm:=ZdA (hD.below hb0) r x hx (n:Int) (k:Int) x.c x.d n k (if qb<qa then -1 else 0) (by split <;> decide) (fun W1 hb1=>?_)
             · refine hcm.mono ?_
               rintro e w' ⟨rfl,hk0,hd0⟩
               rw[hxa,hxb] at hd0
               exact⟨rfl,hk0,hd0⟩
             have hfor:=((hD.below hb0).below hb1).nodes
             have hf':=hfor
             obtain⟨bn,cap,pn,h⟩:=hfor
             rw[hxa,hxb]
             refine(J8 wf hf' n k n2 k2 tf htf hn hn2 he (fun W hb=>PA W _ bf bn cap pn (h.below hb)) (fun W hb=>PB W _ bf bn cap pn (h.below hb))).mono ?_
             rintro e w' ⟨l,l2,wa,wb,rfl,hbl⟩
             refine⟨?_,hbl⟩
             rw[key l l2 wa wb,if_neg hlt]
           · rintro e w' ⟨rfl,W0,hb0,hk0,hd0⟩
             exact⟨rfl,(Zb.of_below hb0).trans (hk0.mono (fun b _ e=>.inl e)),hd0.widen (fun b h=>h.imp id (fun h=>Nat.le_trans hb0.size h))⟩
         · intro w F bd hR
           exact(Zb5 hR r n k (fun W G ⟨bn,cap,rn,rv,hD⟩=>rset_t3 wf u hD r x hx n k n2 k2 hxa hxb tf htf hn hn2 hf0 he qa qb ha hb (decide_eq_false hlt))).mono fun e w' h=>h
     · refine⟨0,0,⟨s,rs.set r ⟨(n:Int),(k:Int),(n:Int),(k:Int)⟩⟩,⟨wf,by simpa using h6,hone⟩,?_,?_⟩
       · intro w F bx hg hP
         refine ZbR hP r n k (fun W bf bl sv hD=>?_)
         refine(ZaE hD r x hx n k .nilIface (.inl rfl) (Q:=fun W0 w'=>Zb F W0 w'∧Zk w' (grow F W0) bx bf bl sv ⟨s,rs.set r ⟨n,k,n,k⟩⟩) (fun W0 hb0=>?_)).mono ?_
         · refine ZdC (hD.below hb0) r x hx _ _ _ _ n k n2 (fun W1 hb1=>?_)
           have hfor:=((hD.below hb0).below hb1).nodes
           have hf':=hfor
           obtain⟨bn,cap,pn,h⟩:=hfor
           rw[hxa,hxb]
           exact Zcb wf hf' n k n2 k2 tf htf hn hn2 he (fun W hb=>PA W _ bf bn cap pn (h.below hb)) (fun W hb=>PB W _ bf bn cap pn (h.below hb))
         · rintro e w' ⟨rfl,W0,hb0,hk0,hd0⟩
           exact⟨rfl,(Zb.of_below hb0).trans (hk0.mono (fun b _ e=>.inl e)),hd0.widen (fun b h=>h.imp id (fun h=>Nat.le_trans hb0.size h))⟩
       · intro w F bd hR
         exact(Zb5 hR r n k (fun W G ⟨bn,cap,rn,rv,hD⟩=>rset_t1 wf u hD r x hx n k n2 k2 hxa hxb tf htf hn hn2 hf0 he)).mono fun e w' h=>h
   · obtain⟨u,hE,hI,PA⟩:=ZdV wf p0 p1 f0 f1 hf h1
     refine⟨f0,f1,⟨s,rs⟩,⟨wf,h6,hrs⟩,?_,?_⟩
     · intro w F bx hg hP
       refine ZdN hg hP r p0 p1 hE (fun W bf bl sv hD=>?_)
       refine(ZaE hD r x hx p0 p1 (.iface 145 u) (.inr ⟨_,_,rfl⟩) (Q:=fun W0 w'=>Below W0.heap.size W0 w') (fun W0 hb0=>?_)).mono ?_
       · refine ZdB (hD.below hb0) r x hx _ _ _ _ p0 p1 u (fun W1 hb1=>?_) hI
         have hfor:=((hD.below hb0).below hb1).nodes
         obtain⟨bn,cap,pn,hf'⟩:=hfor
         exact(Zeq bf p0 p1 x.c x.d u (fun W hb=>PA W _ bf bn cap pn (hf'.below hb)))
       · rintro e w' ⟨rfl,W0,hb0,hk0⟩
         exact⟨rfl,hb0.trans (hk0.mono hb0.size)⟩
     · intro w F bd hR
       have hR':=hR
       obtain⟨bn,cap,rn,rv,hD⟩:=hR
       exact(Zed r p0 p1 f0 f1 (fun W hb=>Zec (hD.below hb) r hr p0 p1 f0 f1 _ hf h1)).mono fun e w' ⟨h1,h2⟩=>hR'.unchangedR h2 h1
theorem ZiW {V:List Nd→Sp→Prop} (hV:Yq V) (s:List Nd) (wf:WF s) (rs:List Sp) (h6:rs.length≤6) (hrs:∀ z∈rs,V s z) (A p0 p1:Int):Ans (Z7 V) GG ⟨s,rs⟩ 32 83 [.int .i64 A,.agg #[.int .i64 p0,.int .i64 p1]] (fun v=>v) (fun v=>v):=by
 by_cases hA:A<0∨(rs.length:Int)≤A
 · refine⟨A,8,⟨s,rs⟩,⟨wf,h6,hrs⟩,?_,?_⟩
   · intro w F bx hg hP
     exact ZdF hg hP A p0 p1 (JN A) (fun W bf bl sv h=>lend_no h A p0 p1 hA)
   · intro w F bd hR
     have hR':=hR
     obtain⟨bn,cap,rn,rv,hD⟩:=hR
     exact(Zd6 A p0 p1 A 8 (fun W hb=>Zeb (hD.below hb) A p0 p1 _ hA)).mono fun e w' ⟨h1,h2⟩=>hR'.unchangedR h2 h1
 · obtain⟨r,rfl⟩:∃ r:Nat,A=(r:Int):=⟨A.toNat,by omega⟩
   have hr:r<rs.length:=by omega
   obtain⟨x,hx⟩:∃ x,rs[r]?=some x:=⟨_,List.getElem?_eq_getElem hr⟩
   have hpx:=(hV.place (hrs x (List.mem_of_getElem? hx))).1
   have hfx:=ZdT hpx
   obtain⟨n2,k2,hxa,hxb,hn2,hk2,hg0,PB⟩:=Jk wf x.a x.b 0 0 hfx rfl
   obtain⟨f0,f1,hf⟩:∃ a y,Zs s p0 p1=(a,y):=⟨_,_,rfl⟩
   by_cases h1:f1=0
   · obtain⟨n,k,rfl,rfl,hn,hk,hf0,PA⟩:=Jk wf p0 p1 f0 f1 hf h1
     have htf:∀ m,∃ t,m<s.length→Zm s m t:=fun m=>by
      by_cases hm:m<s.length
      · obtain⟨t,ht⟩:=XC wf m hm;exact⟨t,fun _=>ht⟩
      · exact⟨0,fun h=>absurd h hm⟩
     obtain⟨tf,htf⟩:=Classical.axiomOfChoice htf
     obtain⟨h,B,u⟩:=wf.up
     have hone:∀ z∈rs.set r ⟨(n:Int),(k:Int),(n:Int),(k:Int)⟩,V s z:=fun z hz=>by
      rcases List.mem_or_eq_of_mem_set hz with hz|hz
      · exact hrs z hz
      · rw[hz];exact hV.one wf ⟨n,k,rfl,rfl,hn,hk⟩
     by_cases he:tf n2=tf n
     · obtain⟨qa,ha⟩:=Jt (plF s (B+1) (tf n)) (n,k)
       obtain⟨qb,hb⟩:=Jt (plF s (B+1) (tf n)) (n2,k2)
       have key:∀ (l l2:List Nat),Way s (tf n2) n2 l→Way s (tf n2) n l2→lexC (l++[k2]) (l2++[k])=if qb<qa then -1 else if qa<qb then 1 else 0:=fun l l2 wa wb =>
        XM wf u wa wb (by first|exact hk|exact hk2) (by first|exact hk|exact hk2) (by rw[he];exact hb) (by rw[he];exact ha)
       by_cases hlt:qa<qb
       · refine⟨0,0,⟨s,rs.set r ⟨(n:Int),(k:Int),(n:Int),(k:Int)⟩⟩,⟨wf,by simpa using h6,hone⟩,?_,?_⟩
         · intro w F bx hg hP
           refine ZbQ hP r n k (fun W bf bl sv hD=>?_)
           refine(ZaC hD r x hx n k .nilIface (.inl rfl) (Q:=fun W0 w'=>Zb F W0 w'∧Zk w' (grow F W0) bx bf bl sv ⟨s,rs.set r ⟨n,k,n,k⟩⟩) (fun W0 hb0=>?_)).mono ?_
           · refine Zdz (hD.below hb0) r x hx _ _ _ _ n k 1 (by decide) (fun W1 hb1=>?_)
             have hfor:=((hD.below hb0).below hb1).nodes
             have hf':=hfor
             obtain⟨bn,cap,pn,h⟩:=hfor
             rw[hxa,hxb]
             refine(J8 wf hf' n2 k2 n k tf htf hn2 hn he (fun W hb=>PB W _ bf bn cap pn (h.below hb)) (fun W hb=>PA W _ bf bn cap pn (h.below hb))).mono ?_
             rintro e w' ⟨l,l2,wa,wb,rfl,hbl⟩
             refine⟨?_,hbl⟩
             rw[key l l2 wa wb,if_neg (by omega),if_pos hlt]
           · rintro e w' ⟨rfl,W0,hb0,hk0,hd0⟩
             exact⟨rfl,(Zb.of_below hb0).trans (hk0.mono (fun b _ e=>.inl e)),hd0.widen (fun b h=>h.imp id (fun h=>Nat.le_trans hb0.size h))⟩
         · intro w F bd hR
           exact(Zb0 hR r n k (fun W G ⟨bn,cap,rn,rv,hD⟩=>rset_e2 wf u hD r x hx n k n2 k2 hxa hxb tf htf hn hn2 hf0 he qa qb ha hb (decide_eq_true hlt))).mono fun e w' h=>h
       · refine⟨0,0,⟨s,rs.set r ⟨n2,k2,n,k⟩⟩,⟨wf,by simpa using h6,fun z hz=>?_⟩,?_,?_⟩
         · rcases List.mem_or_eq_of_mem_set hz with hz|hz
           · exact hrs z hz
           · rw[hz]
             have hstart:PlOk s (n2:Int) (k2:Int):=⟨n2,k2,rfl,rfl,by first|exact hn|exact hn2,by first|exact hk|exact hk2⟩
             have hend:PlOk s (n:Int) (k:Int):=⟨n,k,rfl,rfl,by first|exact hn|exact hn2,by first|exact hk|exact hk2⟩
             have ts:=htf n2 (by first|exact hn|exact hn2)
             have te:=htf n (by first|exact hn|exact hn2)
             rw[← he] at te
             obtain⟨l,wl⟩:=Za6 wf ts (by first|exact hn|exact hn2)
             obtain⟨l2,wl2⟩:=Za6 wf te (by first|exact hn|exact hn2)
             refine hV.two wf hstart hend ts wl wl2 ?_
             rw[key l l2 wl wl2]
             split
             · decide
             · first | decide|(rw[if_neg hlt];decide)
         · intro w F bx hg hP
           refine ZbQ hP r n k (fun W bf bl sv hD=>?_)
           refine(ZaC hD r x hx n k .nilIface (.inl rfl) (Q:=fun W0 w'=>Zb F W0 w'∧Zk w' (grow F W0) bx bf bl sv ⟨s,rs.set r ⟨n2,k2,n,k⟩⟩) (fun W0 hb0=>?_)).mono ?_
           · have hcm:=ZdA (hD.below hb0) r x hx x.a x.b (n:Int) (k:Int) n k (if qb<qa then -1 else 0) (by split <;> decide) (fun W1 hb1=>?_)
             · refine hcm.mono ?_
               rintro e w' ⟨rfl,hk0,hd0⟩
               rw[hxa,hxb] at hd0
               exact⟨rfl,hk0,hd0⟩
             have hfor:=((hD.below hb0).below hb1).nodes
             have hf':=hfor
             obtain⟨bn,cap,pn,h⟩:=hfor
             rw[hxa,hxb]
             refine(J8 wf hf' n2 k2 n k tf htf hn2 hn he (fun W hb=>PB W _ bf bn cap pn (h.below hb)) (fun W hb=>PA W _ bf bn cap pn (h.below hb))).mono ?_
             rintro e w' ⟨l,l2,wa,wb,rfl,hbl⟩
             refine⟨?_,hbl⟩
             rw[key l l2 wa wb,if_neg hlt]
           · rintro e w' ⟨rfl,W0,hb0,hk0,hd0⟩
             exact⟨rfl,(Zb.of_below hb0).trans (hk0.mono (fun b _ e=>.inl e)),hd0.widen (fun b h=>h.imp id (fun h=>Nat.le_trans hb0.size h))⟩
         · intro w F bd hR
           exact(Zb0 hR r n k (fun W G ⟨bn,cap,rn,rv,hD⟩=>rset_e3 wf u hD r x hx n k n2 k2 hxa hxb tf htf hn hn2 hf0 he qa qb ha hb (decide_eq_false hlt))).mono fun e w' h=>h
     · refine⟨0,0,⟨s,rs.set r ⟨(n:Int),(k:Int),(n:Int),(k:Int)⟩⟩,⟨wf,by simpa using h6,hone⟩,?_,?_⟩
       · intro w F bx hg hP
         refine ZbQ hP r n k (fun W bf bl sv hD=>?_)
         refine(ZaC hD r x hx n k .nilIface (.inl rfl) (Q:=fun W0 w'=>Zb F W0 w'∧Zk w' (grow F W0) bx bf bl sv ⟨s,rs.set r ⟨n,k,n,k⟩⟩) (fun W0 hb0=>?_)).mono ?_
         · refine ZdC (hD.below hb0) r x hx _ _ _ _ n k n (fun W1 hb1=>?_)
           have hfor:=((hD.below hb0).below hb1).nodes
           have hf':=hfor
           obtain⟨bn,cap,pn,h⟩:=hfor
           rw[hxa,hxb]
           exact Zcb wf hf' n2 k2 n k tf htf hn2 hn he (fun W hb=>PB W _ bf bn cap pn (h.below hb)) (fun W hb=>PA W _ bf bn cap pn (h.below hb))
         · rintro e w' ⟨rfl,W0,hb0,hk0,hd0⟩
           exact⟨rfl,(Zb.of_below hb0).trans (hk0.mono (fun b _ e=>.inl e)),hd0.widen (fun b h=>h.imp id (fun h=>Nat.le_trans hb0.size h))⟩
       · intro w F bd hR
         exact(Zb0 hR r n k (fun W G ⟨bn,cap,rn,rv,hD⟩=>rset_e1 wf u hD r x hx n k n2 k2 hxa hxb tf htf hn hn2 hf0 he)).mono fun e w' h=>h
   · obtain⟨u,hE,hI,PA⟩:=ZdV wf p0 p1 f0 f1 hf h1
     refine⟨f0,f1,⟨s,rs⟩,⟨wf,h6,hrs⟩,?_,?_⟩
     · intro w F bx hg hP
       refine ZdF hg hP r p0 p1 hE (fun W bf bl sv hD=>?_)
       refine(ZaC hD r x hx p0 p1 (.iface 145 u) (.inr ⟨_,_,rfl⟩) (Q:=fun W0 w'=>Below W0.heap.size W0 w') (fun W0 hb0=>?_)).mono ?_
       · refine ZdB (hD.below hb0) r x hx _ _ _ _ p0 p1 u (fun W1 hb1=>?_) hI
         have hfor:=((hD.below hb0).below hb1).nodes
         obtain⟨bn,cap,pn,hf'⟩:=hfor
         exact(Zer bf x.a x.b p0 p1 u (fun W hb=>by rw[hxa,hxb];exact PB W _ bf bn cap pn (hf'.below hb)) (fun W hb=>PA W _ bf bn cap pn (hf'.below hb)))
       · rintro e w' ⟨rfl,W0,hb0,hk0⟩
         exact⟨rfl,hb0.trans (hk0.mono hb0.size)⟩
     · intro w F bd hR
       have hR':=hR
       obtain⟨bn,cap,rn,rv,hD⟩:=hR
       exact(Zd6 r p0 p1 f0 f1 (fun W hb=>Zec (hD.below hb) r hr p0 p1 f0 f1 _ hf h1)).mono fun e w' ⟨h1,h2⟩=>hR'.unchangedR h2 h1
end
section
open Go.RowKit
theorem Tryz.rt : (Tryz.prog.cutTypes.find? (·.1 == "internal/reflectlite.rtype")).map (·.2) = some 149 := by kernel_rfl
theorem Tryz.oneRow:((List.range Tryz.prog.types.size).filter fun t=>Tryz.prog.rowNamed t [101,114,114,111,114])=[29]:=by kernel_rfl
theorem Tryz.hdl:typeHandle Tryz.prog 29=.pointer (some ⟨7,29,none⟩):=by kernel_rfl
theorem ZfS {W:World} (h:laidMetH Tryz.prog Rows.treesUptoRow.laid W):Glob W:=by
 have h':=(laidMetH_iff.1 h).2
 obtain ⟨name, u, ty, e1, e2, e3, e4, e5⟩ := h' ("errors.errorType", Rows.laid_errors_errorType) (List.mem_filter.2 ⟨.tail _ (.tail _ (.tail _ (.tail _ (.head _)))), rfl⟩)
 have en:name=[101,114,114,111,114]:=(Option.some.inj e1).symm
 subst en
 obtain rfl:=Option.some.inj (Tryz.rt.symm.trans e2)
 have hm:ty∈(List.range Tryz.prog.types.size).filter fun t=>Tryz.prog.rowNamed t [101,114,114,111,114]:=List.mem_filter.2 ⟨List.mem_range.2 e3,e4⟩
 rw[Tryz.oneRow] at hm
 obtain rfl:=List.mem_singleton.1 hm
 rw[Tryz.hdl] at e5
 unfold Glob
 simpa using World.var?_cell Tryz.et e5 0
theorem Zij {W:World} (h:laidMetH Tryz.prog Rows.treesUptoRow.laid W):Tabs W:=by
 have h':=(laidMetH_iff.1 h).1
 have r3 := Lib.laidMet.reads h' (n := "unicode/utf8.first") (d := Rows.laid_unicode_utf8_first) (List.mem_filter.2 ⟨.tail _ (.tail _ (.tail _ (.tail _ (.tail _ (.head _))))), rfl⟩)
 have r4 := Lib.laidMet.reads h' (n := "unicode/utf8.acceptRanges") (d := Rows.laid_unicode_utf8_acceptRanges) (List.mem_filter.2 ⟨.tail _ (.tail _ (.tail _ (.head _))), rfl⟩)
 exact utf8Tabs_of_readsT (U8Types.of260 Tryz.lays260) ⟨by kernel_rfl,by kernel_rfl,by kernel_rfl,by kernel_rfl,by kernel_rfl,by kernel_rfl,by kernel_rfl⟩
  (by rw[show Lib.firstData=Rows.laid_unicode_utf8_first from Pinned.utf8First_eq.symm];exact r3) (by rw[show Lib.acceptData=Rows.laid_unicode_utf8_acceptRanges from by kernel_rfl];exact r4)
theorem ZfQ (W:World) (h:laidMetH Tryz.prog Rows.treesUptoRow.laid W):GG W:=⟨ZfS h,Zij h⟩
end
section
open Go.RowKit
theorem way_pl {s:List Nd} (wf:WF s) {h:Nat→Nat} {B:Nat} (u:Up s h B) {t n k:Nat} {l:List Nat} (wy:Way s t n l) (hk:k≤Zn s n):(n,k)∈plF s (B+1) t:=by
 have h1:=ZeM wf u wy
 have h2:=u.le t
 have h3:=way_pp wf wy (B - l.length+1) _ (Zd1 (k:=B - l.length) hk)
 have e:B - l.length+1+l.length=B+1:=by omega
 rw[e] at h3
 rw[← pp_fst]
 exact List.mem_map.2 ⟨_,h3,rfl⟩
theorem Zgm {l l2:List Nat} {k k2:Nat} (h:leP (pw l k) (pw l2 k2)):lexC (l++[k]) (l2++[k2])≤0:=by
 rcases h with h|h
 · rw[pw_inj h,Zdw];exact Int.le_refl 0
 · rw[ZaD _ _ _ _ h];decide
structure SpAt (s:List Nd) (B:Nat) (z:Sp) (a b c d t i j:Nat):Prop where
 eq:z=⟨a,b,c,d⟩
 ha:a<s.length
 hc:c<s.length
 ta:Zm s a t
 tc:Zm s c t
 hb:b≤Zn s a
 hd:d≤Zn s c
 hi:(plF s (B+1) t)[i]?=some (a,b)
 hj:(plF s (B+1) t)[j]?=some (c,d)
 hij:i≤j
theorem Zej {s:List Nd} (wf:WF s) {h:Nat→Nat} {B:Nat} (u:Up s h B) {z:Sp} (hz:SpIs s z):∃ a b c d t i j,SpAt s B z a b c d t i j:=by
 obtain⟨a,b,c,d,t,l,l2,rfl,h1,h2,ta,wa,wc,hle⟩:=hz
 obtain⟨a',b',ea,eb,ha,hb⟩:=h1
 obtain⟨c',d',ec,ed,hc,hd⟩:=h2
 obtain rfl:a=a':=by omega
 obtain rfl:b=b':=by omega
 obtain rfl:c=c':=by omega
 obtain rfl:d=d':=by omega
 obtain⟨x,hx,hp⟩:=ta.2
 have tc:=YV wf wc hx hp
 obtain⟨i,ei,hi⟩:=Zci (way_pl wf u wa hb)
 obtain⟨j,ej,hj⟩:=Zci (way_pl wf u wc hd)
 refine⟨a,b,c,d,t,i,j,rfl,ha,hc,ta,tc,hb,hd,hi,hj,?_⟩
 have:=Zgm hle
 rw[XM wf u wa wc hb hd (YW _ _) (YW _ _),ei,ej] at this
 rcases Nat.lt_or_ge j i with h|h
 · rw[if_neg (by omega),if_pos (by omega)] at this
   omega
 · exact h
end
section
open Go.RowKit
section
variable {V:List Nd→Sp→Prop}
theorem ZiT (s:List Nd) (wf:WF s) (rs:List Sp) (h6:rs.length≤6) (hrs:∀ z∈rs,V s z) (p0 p1 q0 q1:Int):∃ n:Int,Ans (Z7 V) GG ⟨s,rs⟩ 26 80 [.agg #[.int .i64 p0,.int .i64 p1],.agg #[.int .i64 q0,.int .i64 q1]] (fun v=>.tuple #[.int .i64 n,v]) (fun v=>.tuple #[.int .i64 n,v]):=by
 obtain⟨f0,f1,hf⟩:∃ a y,Zs s p0 p1=(a,y):=⟨_,_,rfl⟩
 obtain⟨g0,g1,hg'⟩:∃ a y,Zs s q0 q1=(a,y):=⟨_,_,rfl⟩
 by_cases h1:f1=0
 · obtain⟨n,k,rfl,rfl,hn,hk,hf0,PA⟩:=Jk wf p0 p1 f0 f1 hf h1
   by_cases h2:g1=0
   · obtain⟨n2,k2,rfl,rfl,hn2,hk2,hg0,PB⟩:=Jk wf q0 q1 g0 g1 hg' h2
     have htf:∀ m,∃ t,m<s.length→Zm s m t:=fun m=>by
      by_cases hm:m<s.length
      · obtain⟨t,ht⟩:=XC wf m hm;exact⟨t,fun _=>ht⟩
      · exact⟨0,fun h=>absurd h hm⟩
     obtain⟨tf,htf⟩:=Classical.axiomOfChoice htf
     by_cases he:tf n=tf n2
     · obtain⟨h,B,u⟩:=wf.up
       obtain⟨qa,ha⟩:=Jt (plF s (B+1) (tf n)) (n,k)
       obtain⟨qb,hb⟩:=Jt (plF s (B+1) (tf n)) (n2,k2)
       refine⟨cmpB (decide (qa<qb)) (decide (qb<qa)),0,0,⟨s,rs⟩,⟨wf,h6,hrs⟩,?_,?_⟩
       · intro w F bx hg hP
         refine ZaF hg hP (.inl rfl) n k n2 k2 (X7 0) (fun W F' bf h=>?_)
         · have h':=h
           obtain⟨bn,cap,pn,h⟩:=h
           refine(J8 wf h' n k n2 k2 tf htf hn hn2 he (fun W hb=>PA W _ bf bn cap pn (h.below hb)) (fun W hb=>PB W _ bf bn cap pn (h.below hb))).mono ?_
           rintro e w' ⟨l,l2,wa,wb,rfl,hbl⟩
           refine⟨?_,hbl⟩
           rw[XM wf u wa wb hk hk2 ha hb]
           by_cases c1:qa<qb
           · rw[if_pos c1,decide_eq_true c1];rfl
           · by_cases c2:qb<qa
             · rw[if_neg c1,if_pos c2,decide_eq_false c1,decide_eq_true c2];rfl
             · rw[if_neg c1,if_neg c2,decide_eq_false c1,decide_eq_false c2];rfl
       · intro w F bd hR
         have hR':=hR
         obtain⟨bn,cap,rn,rv,hD⟩:=hR
         exact(Zfo (s:=s) wf u hD n k n2 k2 tf htf hn hn2 hf0 hg0 he qa qb ha hb _ _ rfl rfl).mono fun e w' ⟨h1,h2⟩=>hR'.unchangedR h2 h1
     · refine⟨0,n2,9,⟨s,rs⟩,⟨wf,h6,hrs⟩,?_,?_⟩
       · intro w F bx hg hP
         refine ZaF hg hP (.inr ⟨_,rfl⟩) n k n2 k2 (Yi n2 9 (by decide)) (fun W F' bf h=>?_)
         · have h':=h
           obtain⟨bn,cap,pn,h⟩:=h
           exact(Zcb wf h' n k n2 k2 tf htf hn hn2 he (fun W hb=>PA W _ bf bn cap pn (h.below hb)) (fun W hb=>PB W _ bf bn cap pn (h.below hb)))
       · intro w F bd hR
         have hR':=hR
         obtain⟨bn,cap,rn,rv,hD⟩:=hR
         exact(Zfp (s:=s) wf hD n k n2 k2 tf htf hn hn2 hf0 hg0 he).mono fun e w' ⟨h1,h2⟩=>hR'.unchangedR h2 h1
   · obtain⟨u,hE,PB⟩:=ZdU wf q0 q1 g0 g1 hg' h2
     refine⟨0,g0,g1,⟨s,rs⟩,⟨wf,h6,hrs⟩,?_,?_⟩
     · intro w F bx hg hP
       refine ZaF hg hP (.inr ⟨u,rfl⟩) n k q0 q1 hE (fun W F' bf h=>?_)
       · obtain⟨bn,cap,pn,h⟩:=h
         exact(Zer bf n k q0 q1 u (fun W hb=>PA W _ bf bn cap pn (h.below hb)) (fun W hb=>PB W _ bf bn cap pn (h.below hb)))
     · intro w F bd hR
       have hR':=hR
       obtain⟨bn,cap,rn,rv,hD⟩:=hR
       exact(Zfn (s:=s) hD n k q0 q1 g0 g1 hf0 hg' h2).mono fun e w' ⟨h1,h2⟩=>hR'.unchangedR h2 h1
 · obtain⟨u,hE,PA⟩:=ZdU wf p0 p1 f0 f1 hf h1
   refine⟨0,f0,f1,⟨s,rs⟩,⟨wf,h6,hrs⟩,?_,?_⟩
   · intro w F bx hg hP
     refine ZaF hg hP (.inr ⟨u,rfl⟩) p0 p1 q0 q1 hE (fun W F' bf h=>?_)
     · obtain⟨bn,cap,pn,h⟩:=h
       exact(Zeq bf p0 p1 q0 q1 u (fun W hb=>PA W _ bf bn cap pn (h.below hb)))
   · intro w F bd hR
     have hR':=hR
     obtain⟨bn,cap,rn,rv,hD⟩:=hR
     exact(Zfm (s:=s) hD p0 p1 q0 q1 f0 f1 hf h1).mono fun e w' ⟨h1,h2⟩=>hR'.unchangedR h2 h1
end
theorem ZiZ (s:List Nd) (wf:WF s) (rs:List Sp) (h6:rs.length≤6) (hrs:∀ z∈rs,SpIs s z) (A:Int):∃ b:ByteArray,Ans (Z7 SpIs) GG ⟨s,rs⟩ 33 85 [.int .i64 A] (fun v=>.tuple #[.string b,v]) (fun v=>.tuple #[.string b,v]):=by
 by_cases hA:A<0∨(rs.length:Int)≤A
 · refine⟨⟨#[]⟩,A,8,⟨s,rs⟩,⟨wf,h6,hrs⟩,?_,?_⟩
   · intro w F bx hg hP
     exact ZdI hg hP A ⟨#[]⟩ _ (.inr ⟨_,_,rfl⟩) (JN A) (fun bf bl sv h=>lread_no h A hA)
   · intro w F bd hR
     have hR':=hR
     obtain⟨bn,cap,rn,rv,hD⟩:=hR
     exact(rread_no hD A hA).mono fun e w' ⟨h1,h2⟩=>hR'.unchangedR h2 h1
 · obtain⟨r,rfl⟩:∃ r:Nat,A=(r:Int):=⟨A.toNat,by omega⟩
   obtain⟨x,hx⟩:∃ x,rs[r]?=some x:=⟨_,List.getElem?_eq_getElem (by omega)⟩
   obtain⟨h,B,u⟩:=wf.up
   obtain⟨a,b,c,d,t,i,j,S⟩:=Zej wf u (hrs x (List.mem_of_getElem? hx))
   obtain⟨rfl,ha,hc,ta,tc,hb,hd,hi,hj,hij⟩:=S
   refine⟨catB (Yf s (plF s (B+1) t) a b c d (allF s (B+1) t)),0,0,⟨s,rs⟩,⟨wf,h6,hrs⟩,?_,?_⟩
   · intro w F bx hg hP
     refine ZdI hg hP r _ _ (.inl rfl) (X7 0) (fun bf bl sv h=>lread_ok h r _ hx _ (fun W hB=>?_))
     obtain⟨bn,cap,pn,hf⟩:=(h.below hB).nodes
     exact ZiD wf u hf a b c d t ha hc ta tc hb hd
   · intro w F bd hR
     have hR':=hR
     obtain⟨bn,cap,rn,rv,hD⟩:=hR
     rw[← Zhk wf ta.lt hi hj hij]
     exact(rread_ok wf u hD r a b c d t i j hx ha ta hi hj hij).mono fun e w' ⟨h1,h2⟩=>hR'.unchangedR h2 h1
end
section
open Go.RowKit Go.Lib
def Yh (w:World) (C:Nat→Prop) (bf:Nat) (acts:List Dact) (cvs:List Value):Prop:=cvs.length=acts.length∧∀ (i:Nat) (a:Dact) (v:Value),acts[i]?=some a→cvs[i]?=some v→FnAt w C bf a v
theorem Yh.keeps {w W:World} {C:Nat→Prop} {bf:Nat} {acts:List Dact} {cvs:List Value} {G:Nat→Prop} (h:Yh w C bf acts cvs) (hk:Zb G w W) (hG:∀ b,C b→¬ G b):Yh W C bf acts cvs :=
 ⟨h.1,fun i a v h1 h2=>(h.2 i a v h1 h2).keeps hk hG⟩
theorem Yh.wider {w:World} {C C':Nat→Prop} {bf:Nat} {acts:List Dact} {cvs:List Value} (h:Yh w C bf acts cvs) (hC:∀ b,C b→C' b):Yh w C' bf acts cvs :=
 ⟨h.1,fun i a v h1 h2=>(h.2 i a v h1 h2).wider hC⟩
theorem Yh.nil (w:World) (C:Nat→Prop) (bf:Nat):Yh w C bf [] []:=⟨rfl,fun i a v h=>by simp at h⟩
theorem Yh.snoc {w:World} {C:Nat→Prop} {bf:Nat} {acts:List Dact} {cvs:List Value} {a:Dact} {v:Value} (h:Yh w C bf acts cvs) (hv:FnAt w C bf a v):Yh w C bf (acts++[a]) (cvs++[v]):=by
 refine⟨by simp[h.1],fun i a' v' h1 h2=>?_⟩
 by_cases hi:i<acts.length
 · rw[List.getElem?_append_left hi] at h1
   rw[List.getElem?_append_left (by rw[h.1];exact hi)] at h2
   exact h.2 i a' v' h1 h2
 · rw[List.getElem?_append_right (by omega)] at h1
   rw[List.getElem?_append_right (by rw[h.1];omega),h.1] at h2
   obtain⟨k,hk⟩:∃ k,k=i - acts.length:=⟨_,rfl⟩
   rw[← hk] at h1 h2
   cases k with
   | zero=>simp at h1 h2;subst h1;subst h2;exact hv
   | succ k=>simp at h1
theorem Zaj (w:World) (bf n o e:Nat):FnAt ((((w.alloc (.cells #[ptr bf] 91)).alloc (.cells #[.int .i64 (n:Int)] 3)).alloc (.cells #[.int .i64 (o:Int)] 3)).alloc (.cells #[.int .i64 (e:Int)] 3)) (fun b=>w.heap.size≤b∧b < w.heap.size+4) bf (n,some (o,e))
 (.func (.func 198) #[] #[ptr w.heap.size,ptr (w.heap.size+1),ptr (w.heap.size+2),ptr (w.heap.size+3)]):=by
 have x0:((((w.alloc (.cells #[ptr bf] 91)).alloc (.cells #[.int .i64 (n:Int)] 3)).alloc (.cells #[.int .i64 (o:Int)] 3)).alloc (.cells #[.int .i64 (e:Int)] 3)).heap[w.heap.size]?=some (.cells #[ptr bf] 91 (0,0)):=by
  rw[Below.heap_alloc _ _ _ (by simp;omega),Below.heap_alloc _ _ _ (by simp;omega),Below.heap_alloc _ _ _ (by simp)]
  exact heap_alloc_new w _
 have x1:((((w.alloc (.cells #[ptr bf] 91)).alloc (.cells #[.int .i64 (n:Int)] 3)).alloc (.cells #[.int .i64 (o:Int)] 3)).alloc (.cells #[.int .i64 (e:Int)] 3)).heap[w.heap.size+1]?=some (.cells #[.int .i64 (n:Int)] 3 (0,0)):=by
  rw[Below.heap_alloc _ _ _ (by simp),Below.heap_alloc _ _ _ (by simp)]
  have:=heap_alloc_new (w.alloc (.cells #[ptr bf] 91)) (.cells #[.int .i64 (n:Int)] 3)
  rwa [World.size_alloc] at this
 have x2:((((w.alloc (.cells #[ptr bf] 91)).alloc (.cells #[.int .i64 (n:Int)] 3)).alloc (.cells #[.int .i64 (o:Int)] 3)).alloc (.cells #[.int .i64 (e:Int)] 3)).heap[w.heap.size+2]?=some (.cells #[.int .i64 (o:Int)] 3 (0,0)):=by
  rw[Below.heap_alloc _ _ _ (by simp)]
  have:=heap_alloc_new ((w.alloc (.cells #[ptr bf] 91)).alloc (.cells #[.int .i64 (n:Int)] 3)) (.cells #[.int .i64 (o:Int)] 3)
  rwa [World.size_alloc,World.size_alloc] at this
 have x3:((((w.alloc (.cells #[ptr bf] 91)).alloc (.cells #[.int .i64 (n:Int)] 3)).alloc (.cells #[.int .i64 (o:Int)] 3)).alloc (.cells #[.int .i64 (e:Int)] 3)).heap[w.heap.size+3]?=some (.cells #[.int .i64 (e:Int)] 3 (0,0)):=by
  have:=heap_alloc_new (((w.alloc (.cells #[ptr bf] 91)).alloc (.cells #[.int .i64 (n:Int)] 3)).alloc (.cells #[.int .i64 (o:Int)] 3)) (.cells #[.int .i64 (e:Int)] 3)
  rwa [World.size_alloc,World.size_alloc,World.size_alloc] at this
 exact⟨_,_,_,_,rfl,Za x0 0,Za x1 0,Za x2 0,Za x3 0,⟨by omega,by omega⟩,⟨by omega,by omega⟩,⟨by omega,by omega⟩,⟨by omega,by omega⟩⟩
theorem Tryz.info237:(Tryz.prog.info? 237).map (fun i=>(i.zero,i.size,i.bytes))=some (some .nilFunc,1,8):=by kernel_rfl
theorem Tryz.info110:(Tryz.prog.info? 110).map (fun i=>(i.zero,i.size,i.bytes))=some (some .nilFunc,1,8):=by kernel_rfl
end
section
open Go.RowKit Go.Shelf
attribute [local go_sem] Oper.semAt_some
theorem Zdh {s:List Nd} (wf:WF s) {h:Nat→Nat} {B:Nat} (u:Up s h B) {F:Nat→Prop} {bf bn cap:Nat} {pn:List PN} {w:World} (hD:Zh w F bf bn cap pn s) (a b c d t n x0 x1:Nat) (ha:a < s.length) (hc:c < s.length) (hn:n < s.length) (ta:Zm s a t) (tc:Zm s c t) (tn:Zm s n t) (hb:b≤Zn s a) (hd:d≤Zn s c)
 (h0:w.cell? ⟨x0,0,none⟩=some (ptr bf)) (h1:w.heap[x1]?=some (.cells #[.int .i64 (a:Int),.int .i64 (b:Int),.int .i64 (c:Int),.int .i64 (d:Int)] 79 (0,0))) :
 Calls Tryz.prog 199 #[.int .i64 (n:Int),ptr x0,ptr x1] w fun e w'=>e=.returned (.bool (insB s (plF s (B+1) t) a b c d n))∧Below w.heap.size w w':=by
 have hcap:=wf.cap
 have l0:=World.block_lt_of_cell? w _ h0
 have l1:=Zc h1
 obtain⟨x,hx⟩:∃ x,s[n]?=some x:=⟨_,List.getElem?_eq_getElem hn⟩
 have n0:=hD.nodesCell
 have hlt:=hD.lt
 obtain⟨r,hr,ho,d0,d1,d2,d3⟩:=hD.look hx
 have hnI:(n:Int)<(s.length:Int):=by omega
 by_cases hp:0≤x.p
 · obtain⟨j,m,y,hj,hy,hm,hno,hyl⟩:=wf.place hx hp
   have hjl:j<s.length:=(List.getElem?_eq_some_iff.1 hy).1
   have CA:=hid (fun W (hB:Below w.heap.size w W)=>Zca (hD.below hB) n j m x y hx hj hy hm hno (by unfold lots;omega) (by unfold lots;omega))
   have CC:=hid (fun W (hB:Below w.heap.size w W)=>Zes wf u (hD.below hB) a b c d j m t ha hc hjl ta tc (tn.par hx hj) hb hd (ZaA wf hy hm).2)
   rw[← ZbN hx hj hy hm hno] at CC
   rw[hj] at d0
   have hneg:((j:Int) == -1)=false:=by simp
   have c0:=Za h1 0
   have c1:=Za h1 1
   have c2:=Za h1 2
   have c3:=Za h1 3
   have HX1:=hid h1
   generalize insB s (plF s (B+1) t) a b c d n=q at *
   clear hD d1 d2 d3 hr ho hx hy hm hno h1 wf u ta tc tn hj
   have KEEP:=hid (fun W (hB:Below w.heap.size w W)=>And.intro ((hB.cell (p:=⟨x0,0,none⟩) l0).trans h0) (And.intro ((hB.cell (p:=⟨bf,0,none⟩) hlt.1).trans n0) (And.intro ((hB.cell (p:=⟨bn,n*4,none⟩) hlt.2).trans d0) (And.intro ((hB.cell (p:=⟨x1,0,none⟩) l1).trans c0) (And.intro ((hB.cell (p:=⟨x1,1,none⟩) l1).trans c1) (And.intro ((hB.cell (p:=⟨x1,2,none⟩) l1).trans c2) ((hB.cell (p:=⟨x1,3,none⟩) l1).trans c3)))))))
   go_enter Tryz.func199,Tryz.ntmps199
   go_wp2
   go_region_held3 (fun w'=>w'.cell? ⟨x0,0,none⟩=some (ptr bf)∧w'.cell? ⟨bf,0,none⟩=some (.slice (some ⟨bn,0,none⟩) s.length cap)∧w'.cell? ⟨bn,n*4,none⟩=some (.int .i64 (j:Int))∧w'.cell? ⟨x1,0,none⟩=some (.int .i64 (a:Int))∧w'.cell? ⟨x1,1,none⟩=some (.int .i64 (b:Int))∧w'.cell? ⟨x1,2,none⟩=some (.int .i64 (c:Int))∧w'.cell? ⟨x1,3,none⟩=some (.int .i64 (d:Int))) (first|exact KP2.out|exact KP1.out|go_keep) (first
    | (go_at_call 159
       refine(CC.out _ ?_).mono ?_
       · first | exact HB1.out|exact HB1.out.drew|exact Zj HB1.out _
       rintro e w2 ⟨rfl,hb2⟩
       have HB2:=hid (show Below w.heap.size w w2 from ⟨hb2.os.trans HB1.out.os,hb2.tape.trans HB1.out.tape,hb2.output.trans HB1.out.output,Nat.le_trans HB1.out.size hb2.size,fun k hk=>(hb2.block k (Nat.lt_of_lt_of_le hk HB1.out.size)).trans (HB1.out.block k hk)⟩)
       have KP2:=hid (KEEP.out _ HB2.out)
       clear hb2)
    | (go_at_call 149
       refine(CA.out _ ?_).mono ?_
       · first | exact JE _ _|exact(Below.refl _ w).drew|exact Below.refl _ w
       clear CA
       rintro e w1 ⟨rfl,hb1⟩
       have HB1:=hid (show Below w.heap.size w w1 from ⟨hb1.os,hb1.tape,hb1.output,hb1.size,hb1.block⟩)
       have KP1:=hid (KEEP.out _ HB1.out)
       clear hb1))
   all_goals
    go_wp2
    go_ret
    exact⟨rfl,HB2.out⟩
 · have hp1:x.p = -1:=by
    rcases wf.par n x hx with h|⟨j,y,h,_⟩
    · exact h
    · omega
   rw[Zdj hx (by omega)]
   rw[hp1] at d0
   clear hD d1 d2 d3 hr ho hx wf u ta tc tn
   go_enter Tryz.func199,Tryz.ntmps199
   go_wp2
   go_quiet (fail)
   go_wp2
   go_ret
   exact⟨rfl,JE _ _⟩
end
section
open Go.RowKit Go.Shelf
attribute [local go_sem] Oper.semAt_some
theorem ZiA {s:List Nd} (wf:WF s) {h:Nat→Nat} {B:Nat} (u:Up s h B) {F:Nat→Prop} {bf bn cap:Nat} {pn:List PN} {w:World} (hD:Zh w F bf bn cap pn s) (a b c d t:Nat) (ha:a < s.length) (hc:c < s.length) (ta:Zm s a t) (tc:Zm s c t) (hb:b≤Zn s a) (hd:d≤Zn s c) :
 Calls Tryz.prog 188 #[ptr bf,spV ⟨a,b,c,d⟩] w fun e w'=>∃ sa sc,e=.returned (.slice sa (ZG s (plF s (B+1) t) a b c d (allF s (B+1) t)).length sc)∧w'.ownsRow 0 3 1 (.slice sa (ZG s (plF s (B+1) t) a b c d (allF s (B+1) t)).length sc) (ZG s (plF s (B+1) t) a b c d (allF s (B+1) t)).length (Zg (ZG s (plF s (B+1) t) a b c d (allF s (B+1) t)))∧Below w.heap.size w w'∧(∀ k,(Value.slice sa (ZG s (plF s (B+1) t) a b c d (allF s (B+1) t)).length sc).ownBlock=some k→w.heap.size≤k):=by
 obtain⟨i0,hi,hz0,hz1,hz2⟩:=info_parts Tryz.infoInt
 have HD:=hid hD.narrow
 clear hD
 refine callsIn_wide.1 (callsIn_of_wp_marks (F:=Fence.wide) (n:=1) Tryz.func188 rfl trivial ?_ rfl)
 simp only[Tryz.ntmps188,List.size_toArray,List.length_cons,List.length_nil,Nat.reduceAdd,Nat.reduceSub,Array.replicate_succ,Array.replicate_zero,List.push_toArray,List.append_toArray,List.nil_append,List.cons_append]
 have C:=hid (fun (W:World)=>JB bf t W)
 have CT:=hid (fun (W:World) (hb:Below w.heap.size w W)=>Za3 wf (HD.out.below hb) ta ha)
 have st:(store ⟨w.heap.size+1+1,0,none⟩ (.func (.func 199) #[] #[.pointer (some ⟨w.heap.size,0,none⟩),.pointer (some ⟨w.heap.size+1,0,none⟩)])).run Tryz.prog (((w.alloc (.cells #[ptr bf] 91)).alloc (.cells #[.int .i64 (a:Int),.int .i64 (b:Int),.int .i64 (c:Int),.int .i64 (d:Int)] 79)).alloc (.cells #[.nilFunc] 83)) =
  .ok () (((w.alloc (.cells #[ptr bf] 91)).alloc (.cells #[.int .i64 (a:Int),.int .i64 (b:Int),.int .i64 (c:Int),.int .i64 (d:Int)] 79)).alloc (.cells #[.func (.func 199) #[] #[.pointer (some ⟨w.heap.size,0,none⟩),.pointer (some ⟨w.heap.size+1,0,none⟩)]] 83)):=by
  have key:∀ W:World,(store ⟨W.heap.size,0,none⟩ (.func (.func 199) #[] #[.pointer (some ⟨w.heap.size,0,none⟩),.pointer (some ⟨w.heap.size+1,0,none⟩)])).run Tryz.prog (W.alloc (.cells #[.nilFunc] 83))=.ok () (W.alloc (.cells #[.func (.func 199) #[] #[.pointer (some ⟨w.heap.size,0,none⟩),.pointer (some ⟨w.heap.size+1,0,none⟩)]] 83)):=by
   intro W
   rw[run_store Tryz.prog _ _ _ _ (by rfl)]
   simp
   go_simp
  have k2:=key ((w.alloc (.cells #[ptr bf] 91)).alloc (.cells #[.int .i64 (a:Int),.int .i64 (b:Int),.int .i64 (c:Int),.int .i64 (d:Int)] 79))
  rw[World.size_alloc,World.size_alloc] at k2
  exact k2
 gi_wp2
 clear st
 obtain⟨w0,hw0⟩:∃ w0,(((w.alloc (.cells #[ptr bf] 91)).alloc (.cells #[.int .i64 (a:Int),.int .i64 (b:Int),.int .i64 (c:Int),.int .i64 (d:Int)] 79)).alloc (.cells #[.func (.func 199) #[] #[.pointer (some ⟨w.heap.size,0,none⟩),.pointer (some ⟨w.heap.size+1,0,none⟩)]] 83)).alloc (.cells #[.slice none 0 0] 24)=w0:=⟨_,rfl⟩
 have hb0:Below w.heap.size w w0:=by rw[← hw0];exact((((Below.refl _ w).alloc (Nat.le_refl _) _).alloc (by simp) _).alloc (by simp only[World.size_alloc];omega) _).alloc (by simp only[World.size_alloc];omega) _
 have hsz0:w0.heap.size=w.heap.size+4:=by rw[← hw0];simp
 have y0:w0.heap[w.heap.size]?=some (.cells #[ptr bf] 91 (0,0)):=by
  rw[← hw0,Below.heap_alloc _ _ _ (by simp only[World.size_alloc];omega),Below.heap_alloc _ _ _ (by simp only[World.size_alloc];omega),Below.heap_alloc _ _ _ (by simp),heap_alloc_new]
 have y1:w0.heap[w.heap.size+1]?=some (.cells #[.int .i64 (a:Int),.int .i64 (b:Int),.int .i64 (c:Int),.int .i64 (d:Int)] 79 (0,0)):=by
  rw[← hw0,Below.heap_alloc _ _ _ (by simp only[World.size_alloc];omega),Below.heap_alloc _ _ _ (by simp)]
  have:=heap_alloc_new (w.alloc (.cells #[ptr bf] 91)) (.cells #[.int .i64 (a:Int),.int .i64 (b:Int),.int .i64 (c:Int),.int .i64 (d:Int)] 79)
  rwa [World.size_alloc] at this
 have y2:w0.heap[w.heap.size+2]?=some (.cells #[.func (.func 199) #[] #[.pointer (some ⟨w.heap.size,0,none⟩),.pointer (some ⟨w.heap.size+1,0,none⟩)]] 83 (0,0)):=by
  rw[← hw0,Below.heap_alloc _ _ _ (by simp)]
  have:=heap_alloc_new ((w.alloc (.cells #[ptr bf] 91)).alloc (.cells #[.int .i64 (a:Int),.int .i64 (b:Int),.int .i64 (c:Int),.int .i64 (d:Int)] 79)) (.cells #[.func (.func 199) #[] #[.pointer (some ⟨w.heap.size,0,none⟩),.pointer (some ⟨w.heap.size+1,0,none⟩)]] 83)
  rwa [World.size_alloc,World.size_alloc] at this
 have y3:w0.heap[w.heap.size+3]?=some (.cells #[.slice none 0 0] 24 (0,0)):=by
  rw[← hw0]
  have:=heap_alloc_new (((w.alloc (.cells #[ptr bf] 91)).alloc (.cells #[.int .i64 (a:Int),.int .i64 (b:Int),.int .i64 (c:Int),.int .i64 (d:Int)] 79)).alloc (.cells #[.func (.func 199) #[] #[.pointer (some ⟨w.heap.size,0,none⟩),.pointer (some ⟨w.heap.size+1,0,none⟩)]] 83)) (.cells #[.slice none 0 0] 24)
  rwa [World.size_alloc,World.size_alloc,World.size_alloc] at this
 rw[hw0]
 have e0:w0.cell? ⟨w.heap.size,0,none⟩=some (ptr bf):=Za y0 0
 have e1:w0.cell? ⟨w.heap.size+1,0,none⟩=some (.int .i64 (a:Int)):=Za y1 0
 have HH:=hid (And.intro hb0 (And.intro hsz0 (And.intro y0 (And.intro y1 (And.intro y2 (And.intro y3 hw0))))))
 clear hb0 hsz0 y0 y1 y2 y3 hw0
 refine wpIn_wide.2 ?_
 go_region_held3 (fun w'=>w'.cell? ⟨w.heap.size,0,none⟩=some (ptr bf)∧w'.cell? ⟨w.heap.size+1,0,none⟩=some (.int .i64 (a:Int))) (first|exact KP.out|go_keep) (first
  | (go_at_call 99;refine(CT.out _ (by first|exact HH.out.1|exact HH.out.1.drew)).mono ?_;rintro e w3 ⟨rfl,hw3⟩;replace hw3:=hw3.symm;subst hw3)
  | (go_at_call 90;refine(C.out _).mono ?_;rintro e w3 ⟨rfl,hw3⟩;replace hw3:=hw3.symm;subst hw3))
 all_goals
  gi_wp2
  obtain⟨wb,hwb⟩:∃ wb,((w0.alloc (.cells #[ptr bf] 91)).alloc (.cells #[.int .i64 (t:Int)] 3)).drew=wb:=⟨_,rfl⟩
  obtain⟨hb0,hsz0,y0,y1,y2,y3,_⟩:=HH.out
  have hszb:wb.heap.size=w.heap.size+6:=by rw[← hwb];simp[hsz0]
  have hb1:Below w0.heap.size w0 wb:=by rw[← hwb];exact(((Below.refl _ w0).alloc (Nat.le_refl _) _).alloc (by simp) _).drew
  have hbb:Below w.heap.size w wb:=hb0.trans (hb1.mono hb0.size)
  have x0:=(hb1.block _ (Zc y0)).trans y0
  have x1:=(hb1.block _ (Zc y1)).trans y1
  have x2:=(hb1.block _ (Zc y2)).trans y2
  have x3:=(hb1.block _ (Zc y3)).trans y3
  have x4:wb.heap[w0.heap.size]?=some (.cells #[ptr bf] 91 (0,0)):=by
   have h1:((w0.alloc (.cells #[ptr bf] 91)).alloc (.cells #[.int .i64 (t:Int)] 3)).heap[w0.heap.size]?=some (.cells #[ptr bf] 91 (0,0)):=by
    rw[Below.heap_alloc _ _ _ (by simp)]
    exact heap_alloc_new w0 _
   rw[← hwb];exact h1
  have x5:wb.heap[w0.heap.size+1]?=some (.cells #[.int .i64 (t:Int)] 3 (0,0)):=by
   have h1:=heap_alloc_new (w0.alloc (.cells #[ptr bf] 91)) (.cells #[.int .i64 (t:Int)] 3)
   rw[World.size_alloc] at h1
   rw[← hwb];exact h1
  rw[hwb]
  rw[hsz0] at x4 x5
  simp only[hsz0]
  have hDb:=HD.out.below hbb
  have hHt:=u.le t
  refine J4 (gf:=138) (lb:=#[ptr (w.heap.size+4+1),ptr (w.heap.size+4)]) rfl (enters_of Tryz.func138 (by kernel_rfl) rfl) rfl (O:=fun k=>k=w.heap.size+3) (fun k e=>by omega)
   (Zaf wf u (B+1) t ta.lt (by omega) wb _ _ _ hDb (fun k hk=>⟨by have:=hk.2;omega,by have:=hk.2;omega⟩) (Za x5 0) (Za x4 0) (by omega) (by omega))
   (fun pre O3 W=>∃ v,O3=(fun k=>k=w.heap.size+3∨v.ownBlock=some k)∧W.heap[w.heap.size+3]?=some (.cells #[v] 24 (0,0))∧W.ownsRow 0 3 1 v (ZG s (plF s (B+1) t) a b c d pre).length (Zg (ZG s (plF s (B+1) t) a b c d pre))∧v.ownBlock≠some (w.heap.size+3)∧Stp (fun k=>k=w.heap.size+3) O3 wb W)
   (fun _ _ _=>False) ?mI ?mIx ?h0
   (fun y=>Act.mk #[ptr bf,spV { a:=a,b:=b,c:=c,d:=d },Value.pointer (some { block:=w.heap.size,off:=0 }),
     Value.pointer (some { block:=w.heap.size+1,off:=0 }),Value.slice none 0 0,
     Value.pointer (some { block:=w.heap.size+1+1,off:=0 }),Value.pointer (some { block:=w.heap.size+1+1+1,off:=0 }),.int .i64 (y:Int),
     Value.func (Fn.func 199) #[] #[Value.pointer (some { block:=w.heap.size,off:=0 }),Value.pointer (some { block:=w.heap.size+1,off:=0 })],
     ptr bf,ptr bf,Value.pointer (some { block:=w.heap.size+1,off:=0 }),
     Value.pointer (some { block:=w.heap.size+1,off:=0 }),Value.int IntKind.i64 a,Value.int IntKind.i64 t,
     Value.func (Fn.func 138) #[] #[ptr (w.heap.size+4+1),ptr (w.heap.size+4)],.int .i64 (y:Int),undef,undef,undef,undef,undef,undef,undef,undef,undef,undef,undef,undef,undef,undef,undef,undef,undef,undef,undef,undef,undef] []) ?assign ?body ?done ?stop
  case mI =>
   rintro pre O3 X Y ⟨v,rfl,h2,h3,h4,h5⟩ hk
   exact⟨v,rfl,by rw[hk.block _ (Zc h2) (fun e=>e.1 (.inl rfl))];exact h2,hk.row h3 (fun b e e2=>e2.1 (.inr e)),h4,XW (Nat.le_refl _) h5 hk⟩
  case mIx=>intro pre O3 X Y h _;exact h
  case h0 =>
   refine⟨.slice none 0 0,?_,x3,World.ownsRow_nil _ _ _ _,by simp[Value.ownBlock],?_⟩
   · funext k;simp[Value.ownBlock]
   · exact Stp.refl (fun k e=>by omega)
  case assign =>
   intro m l' y W K hK
   dsimp only[encN]
   gi_wp2
   exact hK
  case body =>
   rintro m l' pre y O3 W hpre hO3 ⟨v,rfl,h2,h3,h4,h5⟩
   have hyall:y∈allF s (B+1) t:=hpre.subset (by simp)
   have hyl:y<s.length:=X5 wf (B+1) t ta.lt y hyall
   obtain⟨x,hx⟩:∃ x,s[y]?=some x:=⟨_,List.getElem?_eq_getElem hyl⟩
   have hty:Zm s y t:=⟨XH wf (B+1) t y hyall,ta.2⟩
   have hO3':∀ k,(k=w.heap.size+3∨v.ownBlock=some k)→¬ k<w.heap.size+3:=fun k e=>by
    rcases h5.gains k e with e1|e1 <;> omega
   have hDW:=hDb.keeps h5.keeps (fun k hk e=>by have:=hk.2;omega)
   have z0:W.heap[w.heap.size]?=some (.cells #[ptr bf] 91 (0,0)):=by
    rw[h5.keeps.block _ (Zc x0) (by simp)];exact x0
   have z1:W.heap[w.heap.size+1]?=some (.cells #[.int .i64 (a:Int),.int .i64 (b:Int),.int .i64 (c:Int),.int .i64 (d:Int)] 79 (0,0)):=by
    rw[h5.keeps.block _ (Zc x1) (by simp)];exact x1
   have z2:W.heap[w.heap.size+2]?=some (.cells #[.func (.func 199) #[] #[.pointer (some ⟨w.heap.size,0,none⟩),.pointer (some ⟨w.heap.size+1,0,none⟩)]] 83 (0,0)):=by
    rw[h5.keeps.block _ (Zc x2) (by simp)];exact x2
   have g0:W.cell? ⟨w.heap.size,0,none⟩=some (ptr bf):=Za z0 0
   have g2:W.cell? ⟨w.heap.size+1+1,0,none⟩=some (.func (.func 199) #[] #[.pointer (some ⟨w.heap.size,0,none⟩),.pointer (some ⟨w.heap.size+1,0,none⟩)]):=Za z2 0
   have g3:W.cell? ⟨w.heap.size+1+1+1,0,none⟩=some v:=Za h2 0
   obtain⟨r,hr,ho,d0,d1,d2,d3⟩:=hDW.look hx
   have n0:=hDW.nodesCell
   have hfl:=hDW.lt
   have hlW:w.heap.size+6≤W.heap.size:=by have:=h5.keeps.size;omega
   have CY:=hid (fun W2 (hB:Below W.heap.size W W2)=>Zdh wf u (hDW.below hB) a b c d t y w.heap.size (w.heap.size+1) ha hc hyl ta tc hty hb hd ((hB.cell (p:=⟨w.heap.size,0,none⟩) (by simp only;omega)).trans g0) ((hB.block _ (Zc z1)).trans z1))
   have hsn:=Zds s (plF s (B+1) t) a b c d pre y
   have hgo:Y1 s (plF s (B+1) t) a b c d y=(insB s (plF s (B+1) t) a b c d y && !insB s (plF s (B+1) t) a b c d (Zw s y).toNat):=rfl
   obtain⟨ib,hib⟩:∃ ib,insB s (plF s (B+1) t) a b c d y=ib:=⟨_,rfl⟩
   rw[hib] at CY hgo
   have hylI:(y:Int)<(s.length:Int):=by omega
   have KEEP:=hid (fun W2 (hB:Below W.heap.size W W2)=>And.intro ((hB.cell (p:=⟨w.heap.size,0,none⟩) (by simp only;omega)).trans g0) (And.intro ((hB.cell (p:=⟨w.heap.size+1+1,0,none⟩) (by simp only;omega)).trans g2) (And.intro ((hB.cell (p:=⟨bf,0,none⟩) hfl.1).trans n0) (And.intro ((hB.cell (p:=⟨bn,y*4,none⟩) hfl.2).trans d0) ((hB.cell (p:=⟨w.heap.size+1+1+1,0,none⟩) (by simp only;omega)).trans g3)))))
   have HALL:=hid (And.intro h2 (And.intro h3 (And.intro h4 (And.intro h5 (And.intro hO3 (And.intro hO3' hsn))))))
   have HBW:=hid (Below.refl W.heap.size W)
   cases ib with
   | false =>
     rw[Bool.false_and] at hgo
     have HGO:=hid hgo
     clear h2 h3 h4 h5 hO3 hO3' hsn hDW z0 z1 z2 hr ho d1 d2 d3 hpre hyall x0 x1 x2 x3 x4 x5 hDb hb1 y0 y1 y2 y3 hb0 hwb HH HD C CT e0 e1 hgo hib hty
     gi_wp2
     refine Zd5 (fun w'=>w'.cell? ⟨w.heap.size,0,none⟩=some (ptr bf)∧w'.cell? ⟨w.heap.size+1+1,0,none⟩=some (.func (.func 199) #[] #[.pointer (some ⟨w.heap.size,0,none⟩),.pointer (some ⟨w.heap.size+1,0,none⟩)])∧w'.cell? ⟨bf,0,none⟩=some (.slice (some ⟨bn,0,none⟩) s.length cap)∧w'.cell? ⟨bn,y*4,none⟩=some (.int .i64 x.p)∧w'.cell? ⟨w.heap.size+1+1+1,0,none⟩=some v) (by kernel_rfl) (by kernel_rfl) (fun ⟨_,_,h⟩=>h) (KEEP.out _ (Below.refl _ W).drew) (fun hHeld=>?_)
     refine ZQ (i:=0) 17 (v:=(.func (.func 199) #[] #[.pointer (some ⟨w.heap.size,0,none⟩),.pointer (some ⟨w.heap.size+1,0,none⟩)])) rfl rfl (by kernel_rfl) (by kernel_rfl) (by kernel_rfl) (fun _ _ _ h=>h) (Or.inl ⟨by rfl,?_⟩) (by assumption) ?_
     · intro w2 hS2;obtain⟨t0,t1,t2,t3,t4⟩:=hS2;first|(go_simp;done)|(go_simp;with_reducible rfl)
     simp only[List.setIfInBounds_toArray,List.set_cons_zero,List.set_cons_succ]
     refine ZQ (i:=1) 18 (v:=.int .i64 (y:Int)) rfl rfl (by kernel_rfl) (by kernel_rfl) (by kernel_rfl) (fun _ _ _ h=>h) (Or.inl ⟨by rfl,?_⟩) (by assumption) ?_
     · intro w2 hS2;obtain⟨t0,t1,t2,t3,t4⟩:=hS2;first|(go_simp;done)|(go_simp;with_reducible rfl)
     simp only[List.setIfInBounds_toArray,List.set_cons_zero,List.set_cons_succ]
     refine wpAnyH_ready (rs:=[2]) (by kernel_rfl) (by simp) ?_
     refine AllReadyH.cons (i:=2) rfl (fun K hK=>?_) AllReadyH.nil
     go_simp
     refine(CY.out _ ?_).mono ?_
     · first | exact HBW.out|exact HBW.out.drew|exact Zj HBW.out _
     rintro e w6 ⟨rfl,hbx⟩
     have HB6:=hid (show Below W.heap.size W w6 from ⟨hbx.os.trans HBW.out.os,hbx.tape.trans HBW.out.tape,hbx.output.trans HBW.out.output,Nat.le_trans HBW.out.size hbx.size,fun k hk=>(hbx.block k (Nat.lt_of_lt_of_le hk HBW.out.size)).trans (HBW.out.block k hk)⟩)
     clear hbx
     dsimp only
     refine hK.out _ _ (KEEP.out _ HB6.out) (fun hHeld=>?_)
     clear hK K
     try simp only[Act.put,List.setIfInBounds_toArray,List.set_cons_zero,List.set_cons_succ]
     refine ZQ (i:=3) 20 (v:=.bool false) rfl rfl (by kernel_rfl) (by kernel_rfl) (by kernel_rfl) (fun _ _ _ h=>h) (Or.inl ⟨by rfl,?_⟩) (by assumption) ?_
     · intro w2 hS2;obtain⟨t0,t1,t2,t3,t4⟩:=hS2;first|(go_simp;done)|(go_simp;with_reducible rfl)
     simp only[List.setIfInBounds_toArray,List.set_cons_zero,List.set_cons_succ]
     refine ZQ (i:=4) 21 (v:=undef) rfl rfl (by kernel_rfl) (by kernel_rfl) (by kernel_rfl) (fun _ _ _ h=>h) (Or.inr ⟨by rfl,rfl⟩) (by assumption) ?_
     simp only[List.setIfInBounds_toArray,List.set_cons_zero,List.set_cons_succ]
     refine ZQ (i:=5) 22 (v:=undef) rfl rfl (by kernel_rfl) (by kernel_rfl) (by kernel_rfl) (fun _ _ _ h=>h) (Or.inr ⟨by rfl,rfl⟩) (by assumption) ?_
     simp only[List.setIfInBounds_toArray,List.set_cons_zero,List.set_cons_succ]
     refine ZQ (i:=6) 23 (v:=undef) rfl rfl (by kernel_rfl) (by kernel_rfl) (by kernel_rfl) (fun _ _ _ h=>h) (Or.inr ⟨by rfl,rfl⟩) (by assumption) ?_
     simp only[List.setIfInBounds_toArray,List.set_cons_zero,List.set_cons_succ]
     refine ZQ (i:=7) 24 (v:=undef) rfl rfl (by kernel_rfl) (by kernel_rfl) (by kernel_rfl) (fun _ _ _ h=>h) (Or.inr ⟨by rfl,rfl⟩) (by assumption) ?_
     simp only[List.setIfInBounds_toArray,List.set_cons_zero,List.set_cons_succ]
     refine ZQ (i:=8) 25 (v:=undef) rfl rfl (by kernel_rfl) (by kernel_rfl) (by kernel_rfl) (fun _ _ _ h=>h) (Or.inr ⟨by rfl,rfl⟩) (by assumption) ?_
     simp only[List.setIfInBounds_toArray,List.set_cons_zero,List.set_cons_succ]
     refine ZQ (i:=9) 26 (v:=undef) rfl rfl (by kernel_rfl) (by kernel_rfl) (by kernel_rfl) (fun _ _ _ h=>h) (Or.inr ⟨by rfl,rfl⟩) (by assumption) ?_
     simp only[List.setIfInBounds_toArray,List.set_cons_zero,List.set_cons_succ]
     refine ZQ (i:=10) 27 (v:=undef) rfl rfl (by kernel_rfl) (by kernel_rfl) (by kernel_rfl) (fun _ _ _ h=>h) (Or.inr ⟨by rfl,rfl⟩) (by assumption) ?_
     simp only[List.setIfInBounds_toArray,List.set_cons_zero,List.set_cons_succ]
     refine ZQ (i:=11) 28 (v:=undef) rfl rfl (by kernel_rfl) (by kernel_rfl) (by kernel_rfl) (fun _ _ _ h=>h) (Or.inr ⟨by rfl,rfl⟩) (by assumption) ?_
     simp only[List.setIfInBounds_toArray,List.set_cons_zero,List.set_cons_succ]
     refine ZQ (i:=12) 29 (v:=undef) rfl rfl (by kernel_rfl) (by kernel_rfl) (by kernel_rfl) (fun _ _ _ h=>h) (Or.inr ⟨by rfl,rfl⟩) (by assumption) ?_
     simp only[List.setIfInBounds_toArray,List.set_cons_zero,List.set_cons_succ]
     refine ZQ (i:=13) 30 (v:=undef) rfl rfl (by kernel_rfl) (by kernel_rfl) (by kernel_rfl) (fun _ _ _ h=>h) (Or.inr ⟨by rfl,rfl⟩) (by assumption) ?_
     simp only[List.setIfInBounds_toArray,List.set_cons_zero,List.set_cons_succ]
     refine ZQ (i:=14) 31 (v:=undef) rfl rfl (by kernel_rfl) (by kernel_rfl) (by kernel_rfl) (fun _ _ _ h=>h) (Or.inr ⟨by rfl,rfl⟩) (by assumption) ?_
     simp only[List.setIfInBounds_toArray,List.set_cons_zero,List.set_cons_succ]
     refine ZQ (i:=15) 32 (v:=.bool false) rfl rfl (by kernel_rfl) (by kernel_rfl) (by kernel_rfl) (fun _ _ _ h=>h) (Or.inl ⟨by rfl,?_⟩) (by assumption) ?_
     · intro w2 hS2;obtain⟨t0,t1,t2,t3,t4⟩:=hS2;first|(go_simp;done)|(go_simp;with_reducible rfl)
     simp only[List.setIfInBounds_toArray,List.set_cons_zero,List.set_cons_succ]
     refine wpAnyH_done (by kernel_rfl) ?_ _
     have hs6:Stp (fun k=>k=w.heap.size+3∨v.ownBlock=some k) (fun k=>k=w.heap.size+3∨v.ownBlock=some k) W w6:=⟨Zb.of_below HB6.out,fun k e=>.inl e,fun k e=>Nat.lt_of_lt_of_le (HALL.out.2.2.2.2.1 k e) HB6.out.size⟩
     gi_wp2
     obtain⟨h2,h3,h4,h5,hO3,hO3',hsn⟩:=HALL.out
     rw[HGO.out,if_neg (by decide),List.append_nil] at hsn
     refine⟨_,hs6,v,rfl,(HB6.out.block _ (Zc h2)).trans h2,?_,h4,h5.trans hs6⟩
     rw[hsn]
     exact(Zb.of_below (F:=fun _=>False) HB6.out).row h3 (fun _ _ e=>e)
   | true =>
     obtain⟨j,m',y',hj,hy,hm',hno,hyl'⟩:=wf.place hx (by obtain⟨x',hx',hp'⟩:=Zdi hib;rw[hx] at hx';cases hx';exact hp')
     have hjl:j<s.length:=(List.getElem?_eq_some_iff.1 hy).1
     have hpj:(Zw s y).toNat=j:=by simp[Zw,hx,hj]
     rw[hpj,Bool.true_and] at hgo
     have CJ:=hid (fun W2 (hB:Below W.heap.size W W2)=>Zdh wf u (hDW.below hB) a b c d t j w.heap.size (w.heap.size+1) ha hc hjl ta tc (hty.par hx hj) hb hd ((hB.cell (p:=⟨w.heap.size,0,none⟩) (by simp only;omega)).trans g0) ((hB.block _ (Zc z1)).trans z1))
     obtain⟨jb,hjb⟩:∃ jb,insB s (plF s (B+1) t) a b c d j=jb:=⟨_,rfl⟩
     rw[hjb] at CJ hgo
     rw[hj] at d0 KEEP
     have HGO:=hid hgo
     have HLN:Hid ((ZG s (plF s (B+1) t) a b c d pre).length+1<100):=by
      have h8:=JZ s (plF s (B+1) t) a b c d pre
      have h9:=hpre.length_le
      have h7:=Yr wf (B+1) t ta.lt
      simp at h9
      show _<_
      omega
     clear h2 h3 h4 h5 hO3 hO3' hsn hDW z0 z1 z2 hr ho d1 d2 d3 hpre hyall x0 x1 x2 x3 x4 x5 hDb hb1 y0 y1 y2 y3 hb0 hwb HH HD C CT e0 e1 hgo hib hty hy hm' hno hjb hpj
     gi_wp2
     refine Zd5 (fun w'=>w'.cell? ⟨w.heap.size,0,none⟩=some (ptr bf)∧w'.cell? ⟨w.heap.size+1+1,0,none⟩=some (.func (.func 199) #[] #[.pointer (some ⟨w.heap.size,0,none⟩),.pointer (some ⟨w.heap.size+1,0,none⟩)])∧w'.cell? ⟨bf,0,none⟩=some (.slice (some ⟨bn,0,none⟩) s.length cap)∧w'.cell? ⟨bn,y*4,none⟩=some (.int .i64 (j:Int))∧w'.cell? ⟨w.heap.size+1+1+1,0,none⟩=some v) (by kernel_rfl) (by kernel_rfl) (fun ⟨_,_,h⟩=>h) (KEEP.out _ (Below.refl _ W).drew) (fun hHeld=>?_)
     refine ZQ (i:=0) 17 (v:=(.func (.func 199) #[] #[.pointer (some ⟨w.heap.size,0,none⟩),.pointer (some ⟨w.heap.size+1,0,none⟩)])) rfl rfl (by kernel_rfl) (by kernel_rfl) (by kernel_rfl) (fun _ _ _ h=>h) (Or.inl ⟨by rfl,?_⟩) (by assumption) ?_
     · intro w2 hS2;obtain⟨t0,t1,t2,t3,t4⟩:=hS2;first|(go_simp;done)|(go_simp;with_reducible rfl)
     simp only[List.setIfInBounds_toArray,List.set_cons_zero,List.set_cons_succ]
     refine ZQ (i:=1) 18 (v:=.int .i64 (y:Int)) rfl rfl (by kernel_rfl) (by kernel_rfl) (by kernel_rfl) (fun _ _ _ h=>h) (Or.inl ⟨by rfl,?_⟩) (by assumption) ?_
     · intro w2 hS2;obtain⟨t0,t1,t2,t3,t4⟩:=hS2;first|(go_simp;done)|(go_simp;with_reducible rfl)
     simp only[List.setIfInBounds_toArray,List.set_cons_zero,List.set_cons_succ]
     refine wpAnyH_ready (rs:=[2]) (by kernel_rfl) (by simp) ?_
     refine AllReadyH.cons (i:=2) rfl (fun K hK=>?_) AllReadyH.nil
     go_simp
     refine(CY.out _ ?_).mono ?_
     · first | exact HBW.out|exact HBW.out.drew|exact Zj HBW.out _
     rintro e w6 ⟨rfl,hbx⟩
     have HB6:=hid (show Below W.heap.size W w6 from ⟨hbx.os.trans HBW.out.os,hbx.tape.trans HBW.out.tape,hbx.output.trans HBW.out.output,Nat.le_trans HBW.out.size hbx.size,fun k hk=>(hbx.block k (Nat.lt_of_lt_of_le hk HBW.out.size)).trans (HBW.out.block k hk)⟩)
     clear hbx
     dsimp only
     refine hK.out _ _ (KEEP.out _ HB6.out) (fun hHeld=>?_)
     clear hK K
     try simp only[Act.put,List.setIfInBounds_toArray,List.set_cons_zero,List.set_cons_succ]
     refine ZQ (i:=3) 20 (v:=.bool true) rfl rfl (by kernel_rfl) (by kernel_rfl) (by kernel_rfl) (fun _ _ _ h=>h) (Or.inl ⟨by rfl,?_⟩) (by assumption) ?_
     · intro w2 hS2;obtain⟨t0,t1,t2,t3,t4⟩:=hS2;first|(go_simp;done)|(go_simp;with_reducible rfl)
     simp only[List.setIfInBounds_toArray,List.set_cons_zero,List.set_cons_succ]
     refine ZQ (i:=4) 21 (v:=(.func (.func 199) #[] #[.pointer (some ⟨w.heap.size,0,none⟩),.pointer (some ⟨w.heap.size+1,0,none⟩)])) rfl rfl (by kernel_rfl) (by kernel_rfl) (by kernel_rfl) (fun _ _ _ h=>h) (Or.inl ⟨by rfl,?_⟩) (by assumption) ?_
     · intro w2 hS2;obtain⟨t0,t1,t2,t3,t4⟩:=hS2;first|(go_simp;done)|(go_simp;with_reducible rfl)
     simp only[List.setIfInBounds_toArray,List.set_cons_zero,List.set_cons_succ]
     refine ZQ (i:=5) 22 (v:=ptr bf) rfl rfl (by kernel_rfl) (by kernel_rfl) (by kernel_rfl) (fun _ _ _ h=>h) (Or.inl ⟨by rfl,?_⟩) (by assumption) ?_
     · intro w2 hS2;obtain⟨t0,t1,t2,t3,t4⟩:=hS2;first|(go_simp;done)|(go_simp;with_reducible rfl)
     simp only[List.setIfInBounds_toArray,List.set_cons_zero,List.set_cons_succ]
     refine ZQ (i:=6) 23 (v:=ptr bf) rfl rfl (by kernel_rfl) (by kernel_rfl) (by kernel_rfl) (fun _ _ _ h=>h) (Or.inl ⟨by rfl,?_⟩) (by assumption) ?_
     · intro w2 hS2;obtain⟨t0,t1,t2,t3,t4⟩:=hS2;first|(go_simp;done)|(go_simp;with_reducible rfl)
     simp only[List.setIfInBounds_toArray,List.set_cons_zero,List.set_cons_succ]
     refine ZQ (i:=7) 24 (v:=.pointer (some ⟨bf,0,none⟩)) rfl rfl (by kernel_rfl) (by kernel_rfl) (by kernel_rfl) (fun _ _ _ h=>h) (Or.inl ⟨by rfl,?_⟩) (by assumption) ?_
     · intro w2 hS2;obtain⟨t0,t1,t2,t3,t4⟩:=hS2;first|(go_simp;done)|(go_simp;with_reducible rfl)
     simp only[List.setIfInBounds_toArray,List.set_cons_zero,List.set_cons_succ]
     refine ZQ (i:=8) 25 (v:=.slice (some ⟨bn,0,none⟩) s.length cap) rfl rfl (by kernel_rfl) (by kernel_rfl) (by kernel_rfl) (fun _ _ _ h=>h) (Or.inl ⟨by rfl,?_⟩) (by assumption) ?_
     · intro w2 hS2;obtain⟨t0,t1,t2,t3,t4⟩:=hS2;first|(go_simp;done)|(go_simp;with_reducible rfl)
     simp only[List.setIfInBounds_toArray,List.set_cons_zero,List.set_cons_succ]
     refine ZQ (i:=9) 26 (v:=.int .i64 (y:Int)) rfl rfl (by kernel_rfl) (by kernel_rfl) (by kernel_rfl) (fun _ _ _ h=>h) (Or.inl ⟨by rfl,?_⟩) (by assumption) ?_
     · intro w2 hS2;obtain⟨t0,t1,t2,t3,t4⟩:=hS2;first|(go_simp;done)|(go_simp;with_reducible rfl)
     simp only[List.setIfInBounds_toArray,List.set_cons_zero,List.set_cons_succ]
     refine ZQ (i:=10) 27 (v:=.pointer (some ⟨bn,y*4,none⟩)) rfl rfl (by kernel_rfl) (by kernel_rfl) (by kernel_rfl) (fun _ _ _ h=>h) (Or.inl ⟨by rfl,?_⟩) (by assumption) ?_
     · intro w2 hS2;obtain⟨t0,t1,t2,t3,t4⟩:=hS2;first|(go_simp;done)|(go_simp;with_reducible rfl)
     simp only[List.setIfInBounds_toArray,List.set_cons_zero,List.set_cons_succ]
     refine ZQ (i:=11) 28 (v:=.pointer (some ⟨bn,y*4,none⟩)) rfl rfl (by kernel_rfl) (by kernel_rfl) (by kernel_rfl) (fun _ _ _ h=>h) (Or.inl ⟨by rfl,?_⟩) (by assumption) ?_
     · intro w2 hS2;obtain⟨t0,t1,t2,t3,t4⟩:=hS2;first|(go_simp;done)|(go_simp;with_reducible rfl)
     simp only[List.setIfInBounds_toArray,List.set_cons_zero,List.set_cons_succ]
     refine ZQ (i:=12) 29 (v:=.int .i64 (j:Int)) rfl rfl (by kernel_rfl) (by kernel_rfl) (by kernel_rfl) (fun _ _ _ h=>h) (Or.inl ⟨by rfl,?_⟩) (by assumption) ?_
     · intro w2 hS2;obtain⟨t0,t1,t2,t3,t4⟩:=hS2;first|(go_simp;done)|(go_simp;with_reducible rfl)
     simp only[List.setIfInBounds_toArray,List.set_cons_zero,List.set_cons_succ]
     refine wpAnyH_ready (rs:=[13]) (by kernel_rfl) (by simp) ?_
     refine AllReadyH.cons (i:=13) rfl (fun K hK=>?_) AllReadyH.nil
     go_simp
     refine(CJ.out _ ?_).mono ?_
     · first | exact HB6.out|exact HB6.out.drew|exact Zj HB6.out _
     rintro e w7 ⟨rfl,hbx⟩
     have HB7:=hid (show Below W.heap.size W w7 from ⟨hbx.os.trans HB6.out.os,hbx.tape.trans HB6.out.tape,hbx.output.trans HB6.out.output,Nat.le_trans HB6.out.size hbx.size,fun k hk=>(hbx.block k (Nat.lt_of_lt_of_le hk HB6.out.size)).trans (HB6.out.block k hk)⟩)
     clear hbx
     dsimp only
     refine hK.out _ _ (KEEP.out _ HB7.out) (fun hHeld=>?_)
     clear hK K
     try simp only[Act.put,List.setIfInBounds_toArray,List.set_cons_zero,List.set_cons_succ]
     refine ZQ (i:=14) 31 (v:=.bool (!jb)) rfl rfl (by kernel_rfl) (by kernel_rfl) (by kernel_rfl) (fun _ _ _ h=>h) (Or.inl ⟨by rfl,?_⟩) (by assumption) ?_
     · intro w2 hS2;obtain⟨t0,t1,t2,t3,t4⟩:=hS2;first|(go_simp;done)|(go_simp;with_reducible rfl)
     simp only[List.setIfInBounds_toArray,List.set_cons_zero,List.set_cons_succ]
     refine ZQ (i:=15) 32 (v:=.bool (!jb)) rfl rfl (by kernel_rfl) (by kernel_rfl) (by kernel_rfl) (fun _ _ _ h=>h) (Or.inl ⟨by rfl,?_⟩) (by assumption) ?_
     · intro w2 hS2;obtain⟨t0,t1,t2,t3,t4⟩:=hS2;first|(go_simp;done)|(go_simp;with_reducible rfl)
     simp only[List.setIfInBounds_toArray,List.set_cons_zero,List.set_cons_succ]
     refine wpAnyH_done (by kernel_rfl) ?_ _
     obtain⟨t0,t1,t2,t3,t4⟩:=KEEP.out _ HB7.out
     have hs7:Stp (fun k=>k=w.heap.size+3∨v.ownBlock=some k) (fun k=>k=w.heap.size+3∨v.ownBlock=some k) W w7:=⟨Zb.of_below HB7.out,fun k e=>.inl e,fun k e=>Nat.lt_of_lt_of_le (HALL.out.2.2.2.2.1 k e) HB7.out.size⟩
     cases jb with
     | true =>
       simp only[Bool.not_true]
       gi_wp2
       obtain⟨h2,h3,h4,h5,hO3,hO3',hsn⟩:=HALL.out
       rw[HGO.out,Bool.not_true,if_neg (by decide),List.append_nil] at hsn
       refine⟨_,hs7,v,rfl,(HB7.out.block _ (Zc h2)).trans h2,?_,h4,h5.trans hs7⟩
       rw[hsn]
       exact(Zb.of_below (F:=fun _=>False) HB7.out).row h3 (fun _ _ e=>e)
     | false =>
       simp only[Bool.not_false]
       have H2:=hid ((HB7.out.block _ (Zc HALL.out.1)).trans HALL.out.1)
       have H3:=hid ((Zb.of_below (F:=fun _=>False) HB7.out).row HALL.out.2.1 (fun _ _ e=>e))
       have hlW7:w.heap.size+3<w7.heap.size:=Zc H2.out
       have hll:(ZG s (plF s (B+1) t) a b c d pre).length+1<100:=HLN.out
       have H4:=hid HALL.out.2.2.1
       have HS7:=hid hs7
       clear hs7
       gi_wp2_with (gi_at_builtin;refine wpListIn_append_own_at _ rfl _ _ 24 rfl 0 3 i0 (.int .i64 0) 1 8 Tryz.underlying24 hi hz0 hz1 hz2 rfl (by decide) v _ _ rfl (H3.out.alloc _) ⟨w7.heap.size,0,none⟩ 1 1 [.int .i64 (y:Int)] rfl rfl (cell_one_new _ _ _) (by simp[Value.oneCell']) (by unfold maxLen;omega) (by omega) (Nat.zero_le _) ?_
                    intro v' w1 hown' hgrow _ hob
                    obtain⟨g',cap',rfl⟩:=ownsRow_succ hown'
                    have hq1:=(hgrow.block (w.heap.size+3) (by simp only[World.size_alloc];omega) (fun e=>H4.out e.symm)).trans ((Below.heap_alloc _ _ _ hlW7).trans H2.out)
                    have hc1:w1.cell? ⟨w.heap.size+1+1+1,0,none⟩=some v:=Za hq1 0
                    have hf1:w1.frozen? ⟨w.heap.size+1+1+1,0,none⟩=false:=Zd hq1 0
                    have HQ:=hid hq1
                    have HW:=hid hown'
                    have HG:=hid hgrow
                    have HOB:=hid hob
                    clear hown' hgrow hob hq1)
       obtain⟨h2,h3,h4,h5,hO3,hO3',hsn⟩:=HALL.out
       rw[HGO.out,Bool.not_false,if_pos rfl] at hsn
       have hz7:=HS7.out.keeps.size
       have hgb:v.ownBlock=some g'∨w7.heap.size≤g':=by
        rcases HOB.out with e|e
        · left;rw[← e];rfl
        · right
          have e':g'=w7.heap.size+1:=by simpa[Value.ownBlock] using e
          omega
       have hg':g'≠w.heap.size+3:=by
        rcases hgb with e|e
        · rintro rfl;exact h4 e
        · omega
       have hs:Stp (fun k=>k=w.heap.size+3∨v.ownBlock=some k) (fun k=>k=w.heap.size+3∨(Value.slice (some ⟨g',0,none⟩) ((ZG s (plF s (B+1) t) a b c d pre).length+1) cap').ownBlock=some k) W (w1.setCell ⟨w.heap.size+1+1+1,0,none⟩ (.slice (some ⟨g',0,none⟩) ((ZG s (plF s (B+1) t) a b c d pre).length+1) cap')):=by
        refine⟨?_,?_,?_⟩
        · exact((((Zb.of_below HB7.out).alloc _).trans (Zb.grown HG.out (fun k e=>.inl (.inl (.inr e))))).setCell (p:=⟨w.heap.size+1+1+1,0,none⟩) (.inl (.inl rfl)) _)
        · rintro k (e|e)
          · exact .inl (.inl e)
          · have e':g'=k:=by simpa[Value.ownBlock] using e
            subst e'
            rcases hgb with e|e
            · exact .inl (.inr e)
            · exact .inr (by omega)
        · have hz:(w1.setCell ⟨w.heap.size+1+1+1,0,none⟩ (.slice (some ⟨g',0,none⟩) ((ZG s (plF s (B+1) t) a b c d pre).length+1) cap')).heap.size=w1.heap.size:=by simp
          rintro k (e|e)
          · rw[hz,e];exact Zc HQ.out
          · have e':g'=k:=by simpa[Value.ownBlock] using e
            subst e'
            rw[hz]
            exact(HW.out.lt g' rfl).2
       refine⟨_,hs,_,rfl,by rw[heap_setCell_same w1 _ 0 _ _ _ HQ.out];rfl,?_,by simpa[Value.ownBlock] using hg',h5.trans hs⟩
       have hrw:=XV HW.out (p:=⟨w.heap.size+1+1+1,0,none⟩) (by simpa[Value.ownBlock] using hg') (.slice (some ⟨g',0,none⟩) ((ZG s (plF s (B+1) t) a b c d pre).length+1) cap')
       rw[hsn,List.length_append]
       simpa[Zg] using hrw
  case done =>
   rintro O5 W st5 hn5 ⟨v,rfl,h2,h3,h4,h5⟩ hD5
   obtain⟨sa,sc,hkv⟩:∃ a' c',v=.slice a' (ZG s (plF s (B+1) t) a b c d (allF s (B+1) t)).length c':=by
    rcases ZB h3 with ⟨e1,e2⟩|⟨g,c,e1⟩
    · exact⟨none,0,by rw[e1,e2]⟩
    · exact⟨_,_,e1⟩
   subst hkv
   have f1:W.cell? ⟨w.heap.size+1+1+1,0,none⟩=some (.slice sa (ZG s (plF s (B+1) t) a b c d (allF s (B+1) t)).length sc):=Za h2 0
   have H:=hid (And.intro st5 (And.intro hn5 (And.intro h3 (And.intro h4 hD5))))
   have HZ:=hid hszb
   clear st5 hn5 h2 h3 h4 h5 hD5 x0 x1 x2 x3 x4 x5 hszb hDb hb1 y0 y1 y2 y3 hb0 hwb
   gi_wp2
   obtain⟨st5,hn5,h3,h4,hD5⟩:=H.out
   have hszb:=HZ.out
   refine Y9 [wb.heap.size] _ (by simp) (fun D hm=>?_) (fun w' hk'=>⟨.slice sa (ZG s (plF s (B+1) t) a b c d (allF s (B+1) t)).length sc,?_,sa,sc,rfl,?_,?_,?_⟩)
   · obtain rfl:D=wb.heap.size:=by simpa using hm
     exact hD5
   · exact results_tmp (fn:=Tryz.f188) (t:=4) rfl _ _ _
   · refine hk'.row h3 (fun k e e2=>?_)
     have:k=wb.heap.size:=by simpa using e2
     subst this
     exact hn5 (.inr e)
   · have k1:Zb (fun _=>False) w wb:=Zb.of_below hbb
     have k2:Zb (fun _=>False) w W:=k1.trans (st5.keeps.mono (fun k _ e=>.inr (by omega)))
     exact(k2.trans (hk'.mono (fun k _ e=>.inr (by simp at e;omega)))).below
   · intro k e
     rcases st5.gains k (.inr e) with e1|e1
     · omega
     · omega
  case stop =>
   rintro O5 pre W hpre st5 hn5 h hD5
   exact h.elim
end
section
open Go.RowKit Go.Lib
theorem ZR.down {m m':Nat} {w:World} {mv:Value} {f:Mvf} (h:ZR m w mv f) (hm:m'≤m):ZR m' w mv f:=by
 obtain⟨gf,lb,e,he,hr⟩:=h.runs
 exact⟨gf,lb,e,he,fun G W hk hG=>hr G W hk (fun b hb=>hG b (by omega))⟩
def Xi (m:Nat) (w:World) (vs:List Value) (fs:List Mvf):Prop:=vs.length=fs.length∧∀ (i:Nat) (v:Value) (f:Mvf),vs[i]?=some v→fs[i]?=some f→ZR m w v f
theorem Xi.keeps {m:Nat} {w W:World} {vs:List Value} {fs:List Mvf} {G:Nat→Prop} (h:Xi m w vs fs) (hk:Zb G w W) (hG:∀ b,m≤b→¬ G b):Xi m W vs fs :=
 ⟨h.1,fun i v f h1 h2=>(h.2 i v f h1 h2).keeps hk hG⟩
theorem Xi.snoc {m:Nat} {w:World} {vs:List Value} {fs:List Mvf} {v:Value} {f:Mvf} (h:Xi m w vs fs) (hv:ZR m w v f):Xi m w (vs++[v]) (fs++[f]):=by
 refine⟨by simp[h.1],fun i v' f' h1 h2=>?_⟩
 by_cases hi:i<vs.length
 · rw[List.getElem?_append_left hi] at h1
   rw[List.getElem?_append_left (by rw[← h.1];exact hi)] at h2
   exact h.2 i v' f' h1 h2
 · rw[List.getElem?_append_right (by omega)] at h1
   rw[List.getElem?_append_right (by rw[← h.1];omega),← h.1] at h2
   obtain⟨k,hk⟩:∃ k,k=i - vs.length:=⟨_,rfl⟩
   rw[← hk] at h1 h2
   cases k with
   | zero=>simp at h1 h2;subst h1;subst h2;exact hv
   | succ k=>simp at h1
theorem ZcL (fs:List Mvf) (k:Nat) (f:Mvf) (h:fs[k]?=some f) (a b:Int):Zq (fs.take (k+1)) a b=f (Zq (fs.take k) a b).1 (Zq (fs.take k) a b).2:=by
 obtain⟨hk,rfl⟩:=List.getElem?_eq_some_iff.1 h
 unfold Zq
 rw[List.take_succ_eq_append_getElem hk,List.foldl_append]
 rfl
theorem ZgG {fs:List Mvf} (h:∀ f∈fs,Near f) (a b:Int) (h0:0≤b) (h1:b≤100):∀ k,k≤fs.length→0≤(Zq (fs.take k) a b).2∧(Zq (fs.take k) a b).2≤100:=by
 intro k
 induction k with
 | zero=>intro _;exact⟨h0,h1⟩
 | succ k ih =>
   intro hk
   have hf:fs[k]?=some fs[k]:=List.getElem?_eq_getElem (by omega)
   rw[ZcL fs k _ hf]
   have:=ih (by omega)
   exact h _ (List.getElem_mem (by omega)) _ _ this.1 this.2
def TurnInv (W:World) (fs:List Mvf) (a b:Int) (t:Value) (wr:World):Prop :=
 ∃ k:Nat,k≤fs.length∧t=.int .i64 (k:Int)∧wr.heap[W.heap.size]?=some (.cells #[.int .i64 (Zq (fs.take k) a b).1,.int .i64 (Zq (fs.take k) a b).2] 37 (0,0))∧wr.heap[W.heap.size+1]?=some (.cells #[.int .i64 0,.int .i64 0] 37 (0,0))∧Below W.heap.size W wr
theorem ZiN {W:World} {bm m:Nat} {ga:Option Addr} {c:Nat} {vs:List Value} {fs:List Mvf} (hb:W.cell? ⟨bm,0,none⟩=some (.slice ga fs.length c)) (hrow:W.ownsRow 0 110 1 (.slice ga fs.length c) fs.length vs) (hM:Xi m W vs fs) (hn:∀ f∈fs,Near f) (hl:fs.length < 1000) (a b:Int) (h0:0≤b) (h1:b≤100) :
 Calls Tryz.prog 190 #[.agg #[.int .i64 a,.int .i64 b],ptr bm] W fun e w'=>e=.returned (.agg #[.int .i64 (Zq fs a b).1,.int .i64 (Zq fs a b).2])∧Below W.heap.size W w':=by
 have lb:=World.block_lt_of_cell? W _ hb
 have H:=hid (And.intro hrow (And.intro hM hn))
 have HBC:=hid hb
 have hp0:Hid ((((W.alloc (.cells #[.int .i64 a,.int .i64 b] 37)).alloc (.cells #[.int .i64 0,.int .i64 0] 37))).heap[W.heap.size]?=some (.cells #[.int .i64 a,.int .i64 b] 37 (0,0))):=by
  show _=_
  rw[Below.heap_alloc _ _ _ (by simp)];exact heap_alloc_new W _
 have hp1:Hid ((((W.alloc (.cells #[.int .i64 a,.int .i64 b] 37)).alloc (.cells #[.int .i64 0,.int .i64 0] 37))).heap[W.heap.size+1]?=some (.cells #[.int .i64 0,.int .i64 0] 37 (0,0))):=by
  have:=heap_alloc_new (W.alloc (.cells #[.int .i64 a,.int .i64 b] 37)) (.cells #[.int .i64 0,.int .i64 0] 37)
  rwa [World.size_alloc] at this
 have hB0:Hid (Below W.heap.size W ((W.alloc (.cells #[.int .i64 a,.int .i64 b] 37)).alloc (.cells #[.int .i64 0,.int .i64 0] 37))):=((Below.refl _ W).alloc (Nat.le_refl _) _).alloc (by simp) _
 clear hrow hM hn
 go_enter Tryz.func190,Tryz.ntmps190
 go_wp2
 go_loopw [8] (TurnInv W fs a b) (fun t _=>Yj fs.length t)
 case atStart=>exact⟨0,Nat.zero_le _,rfl,hp0.out,hp1.out,hB0.out⟩
 case round =>
  obtain⟨k,hk,rfl,hP,hR,hB⟩:=hrel
  have c0:=Za hP 0
  have c1:=Za hP 1
  have f0:=Zd hP 0
  have f1:=Zd hP 1
  have hpl:=Zc hP
  have hrl:=Zc hR
  by_cases hlt:k<fs.length
  · have hlI:(k:Int)<(fs.length:Int):=by omega
    obtain⟨hrow,hM,hn⟩:=H.out
    have hf:fs[k]?=some fs[k]:=List.getElem?_eq_getElem hlt
    obtain⟨v,hv⟩:∃ v,vs[k]?=some v:=⟨_,List.getElem?_eq_getElem (by rw[hM.1];exact hlt)⟩
    obtain⟨gf,lbs,hve,hent,hrun⟩:=(hM.2 k v _ hv hf).runs
    subst hve
    obtain⟨g,hg⟩:∃ g,ga=some ⟨g,0,none⟩:=by
     rcases ZB hrow with ⟨_,hl0⟩|⟨g,cc,hgv⟩
     · omega
     · cases hgv;exact⟨_,rfl⟩
    subst hg
    have hgl:g<W.heap.size:=(hrow.lt g rfl).2
    have cv:wr.cell? ⟨g,k,none⟩=some (.func (.func gf) #[] lbs):=by
     rw[hB.cell (p:=⟨g,k,none⟩) hgl,hrow.cellAt k (by omega)]
     exact hv
    have hnr:=ZgG hn a b h0 h1 k hk
    have CM:=hid (hrun (fun _=>False) wr (Zb.of_below hB) (fun _ _ e=>e) (Zq (fs.take k) a b).1 (Zq (fs.take k) a b).2 hnr.1 hnr.2)
    rw[← ZcL fs k _ hf a b] at CM
    obtain⟨q0,q1,hq⟩:∃ q0 q1,Zq (fs.take k) a b=(q0,q1):=⟨_,_,rfl⟩
    obtain⟨r0,r1,hr⟩:∃ r0 r1,Zq (fs.take (k+1)) a b=(r0,r1):=⟨_,_,rfl⟩
    rw[hq] at CM c0 c1 hP
    rw[hr] at CM
    have HR:=hid hr
    have HP:=hid (And.intro hP (And.intro hR hB))
    have hgw:¬ g=W.heap.size:=by omega
    clear hrow hM hn hv hf hrun hnr hq hr hP hR hB hp0 hp1 hB0
    go_wp2_with (
     go_at_fn gf
     refine CM.out.mono ?_
     clear CM
     rintro e w1 ⟨rfl,hb1⟩
     have hP1:=(hb1.block _ hpl).trans HP.out.1
     have n0:=Za hP1 0
     have n1:=Za hP1 1
     have g0:=Zd hP1 0
     have g1:=Zd hP1 1
     have HP1:=hid hP1
     have HB1:=hid hb1
     clear hb1 hP1)
    obtain⟨hP,hR,hB⟩:=HP.out
    have a1:=heap_setCell_same w1 _ 0 _ _ (.int .i64 r0) HP1.out
    have a2:=heap_setCell_same _ _ 1 _ _ (.int .i64 r1) a1
    have hR1:=(HB1.out.block _ (Zc hR)).trans hR
    refine⟨⟨k+1,by omega,by go_num,?_,?_,?_⟩,?_⟩
    · rw[HR.out,a2];rfl
    · rw[Below.heap_setCell _ _ _ _ (by simp),Below.heap_setCell _ _ _ _ (by simp)]
      exact hR1
    · exact((((Zb.of_below (F:=fun _=>False) hB).trans (Zb.of_below HB1.out)).setCell (p:=⟨W.heap.size,0,none⟩) (.inr (Nat.le_refl _)) _).setCell (p:=⟨W.heap.size,1,none⟩) (.inr (Nat.le_refl _)) _).below
    · show fs.length - ((k:Int)+1).toNat<fs.length - ((k:Int)).toNat
      omega
  · obtain rfl:k=fs.length:=by omega
    have hlI:¬ (fs.length:Int)<(fs.length:Int):=by omega
    rw[List.take_length] at hP c0 c1
    obtain⟨q0,q1,hq⟩:∃ q0 q1,Zq fs a b=(q0,q1):=⟨_,_,rfl⟩
    rw[hq] at c0 c1
    have HQ:=hid hq
    have r0:=Za hR 0
    have r1:=Za hR 1
    have rf0:=Zd hR 0
    have rf1:=Zd hR 1
    have HB:=hid hB
    clear hP hR hB hq hp0 hp1 hB0
    go_wp2
    refine bodyPost_ret (v:=.agg #[.int .i64 q0,.int .i64 q1]) (by simp[results,Tryz.results190,go_sem, *]) rfl ?_
    refine⟨by rw[HQ.out],?_⟩
    exact(((Zb.of_below (F:=fun _=>False) HB.out).setCell (p:=⟨W.heap.size+1,0,none⟩) (.inr (Nat.le_succ _)) _).setCell (p:=⟨W.heap.size+1,1,none⟩) (.inr (Nat.le_succ _)) _).below
theorem Zf1 {w:World} {m:Nat} {ga:Option Addr} {c:Nat} {vs:List Value} {fs:List Mvf} (hrow:w.ownsRow 0 110 1 (.slice ga fs.length c) fs.length vs) (hrm:∀ b,(Value.slice ga fs.length c).ownBlock=some b→m≤b) (hM:Xi m w vs fs) (hn:∀ f∈fs,Near f) (hl:fs.length < 1000) (hmw:m≤w.heap.size) :
 Calls Tryz.prog 164 #[.slice ga fs.length c] w fun e w'=>∃ bs,e=.returned (.func (.func 190) #[] bs)∧Below w.heap.size w w'∧ZR m w' (.func (.func 190) #[] bs) (Zq fs):=by
 have H:=hid (And.intro hrow (And.intro hrm (And.intro hM hn)))
 clear hrow hrm hM hn
 go_enter Tryz.func164,Tryz.ntmps164
 go_wp2
 go_ret
 obtain⟨hrow,hrm,hM,hn⟩:=H.out
 have hB:Below w.heap.size w (w.alloc (.cells #[.slice ga fs.length c] 235)):=(Below.refl _ w).alloc (Nat.le_refl _) _
 have x0:=heap_alloc_new w (.cells #[.slice ga fs.length c] 235)
 refine⟨_,rfl,by first|exact hB|go_grown,?_⟩
 have hk0:=Zb.of_below (F:=fun _=>False) hB
 refine⟨_,_,rfl,enters_of Tryz.func190 (by kernel_rfl) rfl,fun G W hk hG a b hb0 hb1=>?_⟩
 exact ZiN (hk.cell (Za x0 0) (hG _ hmw)) (hk.row (hk0.row hrow (fun _ _ e=>e)) (fun b e=>hG b (hrm b e))) ((hM.keeps hk0 (fun _ _ e=>e)).keeps hk hG) hn hl a b hb0 hb1
end
section
open Go.RowKit
section
variable {s:List Nd} {h:Nat→Nat} {B:Nat} {F:Nat→Prop} {bf bn cap:Nat} {pn:List PN} {w:World}
def ZL (w:World) (bf:Nat) (acts:List Dact) (v:Value) (wr:World):Prop :=
 ∃ (C:Nat→Prop) (cvs:List Value),wr.ownsRow 0 237 1 v acts.length cvs∧Yh wr C bf acts cvs∧(∀ b,C b→w.heap.size≤b∧b<wr.heap.size∧v.ownBlock≠some b)∧(∀ b,v.ownBlock=some b→w.heap.size≤b)
theorem ZL.below {w w1 w2:World} {bf:Nat} {acts:List Dact} {v:Value} (h:ZL w bf acts v w1) (hb:Below w1.heap.size w1 w2):ZL w bf acts v w2:=by
 obtain⟨C,cvs,h1,h2,h3,h4⟩:=h
 have hk:=Zb.of_below (F:=fun _=>False) hb
 exact⟨C,cvs,hk.row h1 (fun _ _ e=>e),h2.keeps hk (fun _ _ e=>e),fun b e=>⟨(h3 b e).1,Nat.lt_of_lt_of_le (h3 b e).2.1 hb.size,(h3 b e).2.2⟩,h4⟩
theorem ZL.nil (w wr:World) (bf:Nat):ZL w bf [] (.slice none 0 0) wr:=⟨fun _=>False,[],World.ownsRow_nil _ _ _ _,Yh.nil _ _ _,fun b e=>e.elim,fun b e=>by cases e⟩
def Zbf (w:World) (bf:Nat) (acts:List Dact) (e:Ending) (w':World):Prop :=
 ∃ (ga:Option Addr) (c:Nat),e=.returned (.slice ga acts.length c)∧ZL w bf acts (.slice ga acts.length c) w'∧Below w.heap.size w w'
def TwoPl (W0:World) (a b c d:Int) (s5 s6:Value) (wc:World):Prop :=
 ∃ p q,s5=.pointer (some ⟨p,0,none⟩)∧s6=.pointer (some ⟨q,0,none⟩)∧wc.heap[p]?=some (.cells #[.int .i64 a,.int .i64 b] 37 (0,0))∧wc.heap[q]?=some (.cells #[.int .i64 c,.int .i64 d] 37 (0,0))∧Below W0.heap.size W0 wc
theorem ZeG (W0:World) (o1 o2:Array Value):((W0.alloc (.cells o1 37)).alloc (.cells o2 37)).drew.heap[W0.heap.size]?=some (.cells o1 37 (0,0))∧((W0.alloc (.cells o1 37)).alloc (.cells o2 37)).drew.heap[W0.heap.size+1]?=some (.cells o2 37 (0,0))∧Below W0.heap.size W0 ((W0.alloc (.cells o1 37)).alloc (.cells o2 37)).drew:=by
 refine⟨?_,?_,(((Below.refl _ W0).alloc (Nat.le_refl _) _).alloc (by simp) _).drew⟩
 · show ((W0.alloc (.cells o1 37)).alloc (.cells o2 37)).heap[W0.heap.size]?=_
   rw[Below.heap_alloc _ _ _ (by simp)]
   exact heap_alloc_new W0 _
 · have:=heap_alloc_new (W0.alloc (.cells o1 37)) (.cells o2 37)
   rw[World.size_alloc] at this
   exact this
theorem ZeE (W0:World) (a b c d:Int) {n:Nat} (hn:W0.heap.size=n):TwoPl W0 a b c d (.pointer (some ⟨n,0,none⟩)) (.pointer (some ⟨n+1,0,none⟩)) ((W0.alloc (.cells #[.int .i64 a,.int .i64 b] 37)).alloc (.cells #[.int .i64 c,.int .i64 d] 37)).drew:=by
 subst hn
 obtain⟨h1,h2,h3⟩:=ZeG W0 #[.int .i64 a,.int .i64 b] #[.int .i64 c,.int .i64 d]
 exact⟨_,_,rfl,rfl,h1,h2,h3⟩
theorem ZeF (W0:World) (a b c d:Int) {n:Nat} (hn:W0.heap.size=n):TwoPl W0 a b c d (.pointer (some ⟨n+1,0,none⟩)) (.pointer (some ⟨n,0,none⟩)) ((W0.alloc (.cells #[.int .i64 c,.int .i64 d] 37)).alloc (.cells #[.int .i64 a,.int .i64 b] 37)).drew:=by
 subst hn
 obtain⟨h1,h2,h3⟩:=ZeG W0 #[.int .i64 c,.int .i64 d] #[.int .i64 a,.int .i64 b]
 exact⟨_,_,rfl,rfl,h2,h1,h3⟩
theorem Zip (hD:Zh w F bf bn cap pn s) (a b d:Nat) (x:Nd) (hx:s[a]?=some x) (ht:x.t=true) :
 Calls Tryz.prog 163 #[ptr bf,spV ⟨a,b,a,d⟩] w (Zbf w bf [(a,some (b,d))]):=by
 have ha:a<s.length:=(List.getElem?_eq_some_iff.1 hx).1
 have n0:=hD.nodesCell
 have hlt:=hD.lt
 obtain⟨r,hr,ho,c0,c1,c2,c3⟩:=hD.look hx
 rw[ht] at c1
 have haI:(a:Int)<(s.length:Int):=by omega
 clear hD hr ho c0 c2 c3 hx
 go_enter Tryz.func163,Tryz.ntmps163
 go_wp2
 obtain⟨W0,hW0⟩:∃ W0,(w.alloc (.cells #[ptr bf] 91)).alloc (.cells #[.int .i64 (a:Int),.int .i64 (b:Int),.int .i64 (a:Int),.int .i64 (d:Int)] 79)=W0:=⟨_,rfl⟩
 have hsz0:W0.heap.size=w.heap.size+2:=by rw[← hW0];simp
 have hb0:Below w.heap.size w W0:=by rw[← hW0];exact((Below.refl _ w).alloc (Nat.le_refl _) _).alloc (by simp) _
 have y0:W0.heap[w.heap.size]?=some (.cells #[ptr bf] 91 (0,0)):=by
  rw[← hW0,Below.heap_alloc _ _ _ (by simp),heap_alloc_new]
 have y1:W0.heap[w.heap.size+1]?=some (.cells #[.int .i64 (a:Int),.int .i64 (b:Int),.int .i64 (a:Int),.int .i64 (d:Int)] 79 (0,0)):=by
  have:=heap_alloc_new (w.alloc (.cells #[ptr bf] 91)) (.cells #[.int .i64 (a:Int),.int .i64 (b:Int),.int .i64 (a:Int),.int .i64 (d:Int)] 79)
  rw[World.size_alloc] at this
  rw[← hW0];exact this
 rw[hW0]
 have s0:=Za y1 0
 have s1:=Za y1 1
 have s2:=Za y1 2
 have s3:=Za y1 3
 have hl1:=Zc y1
 have HY:=hid (And.intro y0 (And.intro y1 hb0))
 clear y0 y1 hb0 hW0
 go_cut [5,6] from 12 to 15 (fun s5 s6 wc=>TwoPl W0 a b a d s5 s6 wc)
 case first =>
  go_region
  all_goals
   go_wp2_with fail
   go_meet
   case rel=>first|exact ZeE W0 _ _ _ _ hsz0|exact ZeF W0 _ _ _ _ hsz0
 case rest =>
  obtain⟨p,q,rfl,rfl,hp,hq,hbc⟩:=hcut
  obtain⟨y0,y1,hb0⟩:=HY.out
  have hbw:Below w.heap.size w wc:=hb0.trans (hbc.mono hb0.size)
  have e0:=(hbw.cell (p:=⟨bf,0,none⟩) hlt.1).trans n0
  have e1:=(hbw.cell (p:=⟨bn,a*4+1,none⟩) hlt.2).trans c1
  have z0:=(hbc.block _ (Zc y0)).trans y0
  have g0:=Za z0 0
  have p0:=Za hp 0
  have p1:=Za hp 1
  have q0:=Za hq 0
  have q1:=Za hq 1
  have HBW:=hid hbw
  have HK:=hid (And.intro hp (And.intro hq z0))
  clear hp hq z0 hbc hbw y0 y1 hb0 HY s0 s1 s2 s3 n0 c1
  go_wp2
  go_quiet (fail)
  go_wp2_with (
   go_at_call 187
   refine(Zai bf (a:Int) (b:Int) (d:Int) _).mono ?_
   rintro e w3 ⟨rfl,hw3⟩
   have HW3:=hid hw3
   clear hw3)
  go_ret
  have hw3:=HW3.out
  have hbw:=Zj HBW.out nq
  have hfn:=Zaj (wc.drewN nq) bf a b d
  rw[← hw3] at hfn
  have hb3:Below (wc.drewN nq).heap.size (wc.drewN nq) w3:=by
   rw[hw3]
   exact((((Below.refl _ _).alloc (Nat.le_refl _) _).alloc (by simp) _).alloc (by simp;omega) _).alloc (by simp;omega) _
  have hz3:w3.heap.size=wc.heap.size+4:=by rw[hw3];simp
  have hz1:=HBW.out.size
  have hB3:Below w.heap.size w w3:=hbw.trans (hb3.mono hbw.size)
  have hrow:=World.ownsRow_lit (base:=0) (e:=237) (size:=1) w3 #[.func (.func 198) #[] #[ptr wc.heap.size,ptr (wc.heap.size+1),ptr (wc.heap.size+2),ptr (wc.heap.size+3)]] 1 (Nat.zero_le _) (by decide) rfl
  refine⟨some ⟨w3.heap.size,0,none⟩,1,rfl,⟨fun b=>wc.heap.size≤b∧b<wc.heap.size+4,[.func (.func 198) #[] #[ptr wc.heap.size,ptr (wc.heap.size+1),ptr (wc.heap.size+2),ptr (wc.heap.size+3)]],by simpa using hrow,?_,fun k e=>⟨by omega,by simp;omega,?_⟩,fun k e=>?_⟩,hB3.alloc hB3.size _⟩
  · have h1:=(Yh.nil w3 _ bf).snoc hfn
    exact h1.keeps (G:=fun _=>False) ((Zb.refl _ w3).alloc _) (fun _ _ e=>e)
  · intro e1
    have e':w3.heap.size=k:=by simpa[Value.ownBlock] using e1
    omega
  · have e':w3.heap.size=k:=by simpa[Value.ownBlock] using e
    omega
end
end
section
open Go.RowKit
theorem ZL.push {w wr w2 w1:World} {bf:Nat} {acts:List Dact} {v v':Value} {a:Dact} {cv:Value} {C C':Nat→Prop} {cvs:List Value} (h2:Yh wr C bf acts cvs) (h3:∀ b,C b→w.heap.size≤b∧b < wr.heap.size∧v.ownBlock≠some b) (h4:∀ b,v.ownBlock=some b→w.heap.size≤b) (hb:Below wr.heap.size wr w2) (hf:FnAt w2 C' bf a cv) (hC':∀ b,C' b→w.heap.size≤b∧b < w2.heap.size∧v.ownBlock≠some b)
 (hg:w2.grownBy w1 v.ownBlock) (ho:w1.ownsRow 0 237 1 v' (acts.length+1) (cvs++[cv])) (hob:v'.ownBlock=v.ownBlock∨∃ k,v'.ownBlock=some k∧w2.heap.size≤k):ZL w bf (acts++[a]) v' w1:=by
 have hk:Zb (fun b=>v.ownBlock=some b) w2 w1:=Zb.grown hg (fun k e=>.inl e)
 have hk0:=Zb.of_below (F:=fun _=>False) hb
 have hz:=hk.size
 have hzb:=hb.size
 have hex:∃ b,C' b:=by
  obtain⟨n,oe⟩:=a
  cases oe with
  | none=>obtain⟨x0,_,_,_,_,l0,_⟩:=hf;exact⟨_,l0⟩
  | some oe=>obtain⟨o,e'⟩:=oe;obtain⟨x0,_,_,_,_,_,_,_,_,l0,_⟩:=hf;exact⟨_,l0⟩
 refine⟨fun b=>C b∨C' b,cvs++[cv],by rw[List.length_append];exact ho,?_,?_,?_⟩
 · exact Yh.snoc (((h2.keeps hk0 (fun _ _ e=>e)).keeps hk (fun b e=>(h3 b e).2.2)).wider (fun b e=>.inl e)) ((hf.keeps hk (fun b e=>(hC' b e).2.2)).wider (fun b e=>.inr e))
 · rintro b (e|e)
   · have h5:=h3 b e
     refine⟨h5.1,by omega,fun e1=>?_⟩
     rcases hob with e2|⟨k,e2,e3⟩
     · exact h5.2.2 (e2 ▸ e1)
     · rw[e2] at e1
       cases e1
       omega
   · have h5:=hC' b e
     refine⟨h5.1,by omega,fun e1=>?_⟩
     rcases hob with e2|⟨k,e2,e3⟩
     · exact h5.2.2 (e2 ▸ e1)
     · rw[e2] at e1
       cases e1
       omega
 · intro b e1
   rcases hob with e2|⟨k,e2,e3⟩
   · exact h4 b (e2 ▸ e1)
   · rw[e2] at e1
     cases e1
     obtain⟨b',hb'⟩:=hex
     have:=hC' b' hb'
     omega
section
variable {s:List Nd} {h:Nat→Nat} {B:Nat} {F:Nat→Prop} {bf bn cap:Nat} {pn:List PN} {w:World}
theorem Zio (wf:WF s) (u:Up s h B) (hD:Zh w F bf bn cap pn s) (a b c d t:Nat) (x y:Nd) (hx:s[a]?=some x) (hy:s[c]?=some y) (ta:Zm s a t) (tc:Zm s c t) (hb:b≤Zn s a) (hd:d≤Zn s c) (hac:a≠c∨x.t=false) :
 Calls Tryz.prog 163 #[ptr bf,spV ⟨a,b,c,d⟩] w (Zbf w bf (XN s B a b c d t)):=by
 obtain⟨i0,hi,hz0,hz1,hz2⟩:=info_parts Tryz.info237
 have ha:a<s.length:=(List.getElem?_eq_some_iff.1 hx).1
 have hc:c<s.length:=(List.getElem?_eq_some_iff.1 hy).1
 have n0:=hD.nodesCell
 have hlt:=hD.lt
 obtain⟨r,hr,ho,c0,c1,c2,c3⟩:=hD.look hx
 obtain⟨r2,hr2,ho2,d0,d1,d2,d3⟩:=hD.look hy
 have haI:(a:Int)<(s.length:Int):=by omega
 have hcI:(c:Int)<(s.length:Int):=by omega
 have CI:=hid (fun W (hB:Below w.heap.size w W)=>ZiA wf u (hD.below hB) a b c d t ha hc ta tc hb hd)
 have hch:=wf.chars a x hx
 have CC:=hid (fun W=>Y6 x.cs hch.2 (by unfold lots;omega) W)
 have hes:Ye s a b (csOf s a).length=if x.t=true then [(a,some (b,x.cs.length))] else []:=by
  unfold Ye;rw[hx,YZ hx];simp
 have hee:Ye s c 0 d=if y.t=true then [(c,some (0,d))] else []:=by
  unfold Ye;rw[hy];simp
 unfold XN
 rw[hes,hee]
 have hll:(ZG s (plF s (B+1) t) a b c d (allF s (B+1) t)).length≤40:=Nat.le_trans (JZ _ _ _ _ _ _ _) (Yr wf (B+1) t ta.lt)
 generalize hL:ZG s (plF s (B+1) t) a b c d (allF s (B+1) t)=L at *
 obtain⟨AC,hAC⟩:∃ AC,(if x.t=true then [(a,some (b,x.cs.length))] else [])++L.map (fun i=>((i,none):Dact))++(if y.t=true then [(c,some (0,d))] else [])=AC:=⟨_,rfl⟩
 rw[hAC]
 have HAC:=hid hAC
 clear hD hr ho c0 c2 hr2 ho2 d0 d2 d3 wf u hx hy ta tc hes hee hL hch hAC
 go_enter Tryz.func163,Tryz.ntmps163
 go_wp2
 obtain⟨W0,hW0⟩:∃ W0,(w.alloc (.cells #[ptr bf] 91)).alloc (.cells #[.int .i64 (a:Int),.int .i64 (b:Int),.int .i64 (c:Int),.int .i64 (d:Int)] 79)=W0:=⟨_,rfl⟩
 have hsz0:W0.heap.size=w.heap.size+2:=by rw[← hW0];simp
 have hb0:Below w.heap.size w W0:=by rw[← hW0];exact((Below.refl _ w).alloc (Nat.le_refl _) _).alloc (by simp) _
 have y0:W0.heap[w.heap.size]?=some (.cells #[ptr bf] 91 (0,0)):=by
  rw[← hW0,Below.heap_alloc _ _ _ (by simp),heap_alloc_new]
 have y1:W0.heap[w.heap.size+1]?=some (.cells #[.int .i64 (a:Int),.int .i64 (b:Int),.int .i64 (c:Int),.int .i64 (d:Int)] 79 (0,0)):=by
  have:=heap_alloc_new (w.alloc (.cells #[ptr bf] 91)) (.cells #[.int .i64 (a:Int),.int .i64 (b:Int),.int .i64 (c:Int),.int .i64 (d:Int)] 79)
  rw[World.size_alloc] at this
  rw[← hW0];exact this
 rw[hW0]
 have s0:=Za y1 0
 have s1:=Za y1 1
 have s2:=Za y1 2
 have s3:=Za y1 3
 have hl1:=Zc y1
 have HY:=hid (And.intro y0 (And.intro y1 hb0))
 clear y0 y1 hb0 hW0
 go_cut [5,6] from 12 to 15 (fun s5 s6 wc=>TwoPl W0 a b c d s5 s6 wc)
 case first =>
  go_region
  all_goals
   go_wp2_with fail
   go_meet
   case rel=>first|exact ZeE W0 _ _ _ _ hsz0|exact ZeF W0 _ _ _ _ hsz0
 case rest =>
  obtain⟨p,q,rfl,rfl,hp,hq,hbc⟩:=hcut
  obtain⟨y0,y1,hb0⟩:=HY.out
  have hbw:Below w.heap.size w wc:=hb0.trans (hbc.mono hb0.size)
  have e0:=(hbw.cell (p:=⟨bf,0,none⟩) hlt.1).trans n0
  have e1:=(hbw.cell (p:=⟨bn,a*4+1,none⟩) hlt.2).trans c1
  have e2:=(hbw.cell (p:=⟨bn,c*4+1,none⟩) hlt.2).trans d1
  have e3:=(hbw.cell (p:=⟨bn,a*4+3,none⟩) hlt.2).trans c3
  have z0:=(hbc.block _ (Zc y0)).trans y0
  have z1:=(hbc.block _ (Zc y1)).trans y1
  have g0:=Za z0 0
  have p0:=Za hp 0
  have p1:=Za hp 1
  have q0:=Za hq 0
  have q1:=Za hq 1
  have t0:=Za z1 0
  have t1:=Za z1 1
  have t2:=Za z1 2
  have t3:=Za z1 3
  have HBW:=hid hbw
  have HK:=hid (And.intro hp (And.intro hq (And.intro z0 z1)))
  have hpl:=Zc hp
  have hql:=Zc hq
  clear hp hq z0 z1 hbc hbw y0 y1 hb0 HY s0 s1 s2 s3 n0 c1 c3 d1
  have hgd:(x.t && ((a:Int) == (c:Int)))=false:=by
   rcases hac with h|h
   · have:((a:Int) == (c:Int))=false:=by simp;omega
     rw[this,Bool.and_false]
   · rw[h,Bool.false_and]
  cases hxt:x.t with
  | false =>
    rw[hxt] at e1
    clear hgd hac CC
    go_wp2
    go_quiet (fail)
    go_wp2_with (
     go_at_call 188
     refine(CI.out _ (Zj HBW.out _)).mono ?_
     rintro e w3 ⟨sa,sc,rfl,hr3,hb3,hg3⟩
     have HR3:=hid (And.intro hr3 hg3)
     have hb3':Below wc.heap.size wc w3:=⟨hb3.os,hb3.tape,hb3.output,hb3.size,hb3.block⟩
     have HB3:=hid hb3'
     have hz3:=hb3'.size
     clear hr3 hb3 hg3 hb3')
    have SF:=hid (ZL.nil w w3 bf)
    have NV:Hid ((Value.slice none 0 0).ownBlock≠some w.heap.size∧(Value.slice none 0 0).ownBlock≠some q∧(∀ gL,sa=some ⟨gL,0,none⟩→(Value.slice none 0 0).ownBlock≠some gL)):=⟨fun e=>(by cases e),fun e=>(by cases e),fun _ _ e=>(by cases e)⟩
    have VGE:Hid (∀ b,(Value.slice none 0 0).ownBlock=some b→w.heap.size≤b):=fun b e=>(by cases e)
    go_loopw [9,75] (fun t9 s75 wr=>∃ (k:Nat) (s9:Value),k≤L.length∧t9=s9∧s75=.int .i64 (k:Int)∧ZL w bf (([]:List Dact)++(L.take k).map (fun i=>((i,none):Dact))) s9 wr∧Zb (fun b=>(Value.slice none 0 0).ownBlock=some b) w3 wr∧((∀ b,s9.ownBlock=some b→(Value.slice none 0 0).ownBlock=some b)∨∀ b,s9.ownBlock=some b→w3.heap.size≤b)) (fun _ t _=>Yj L.length t)
    case atStart=>exact⟨0,_,Nat.zero_le _,rfl,rfl,by simpa using SF.out,Zb.refl _ _,.inl (fun b e=>e)⟩
    case round =>
     obtain⟨k,s9,hk,h9,rfl,hSF,hK,hob0⟩:=hrel
     replace h9:=h9.symm
     subst h9
     have hKf:wr.heap[w.heap.size]?=some (.cells #[ptr bf] 91 (0,0)):=(hK.block _ (Nat.lt_of_lt_of_le (Zc HK.out.2.2.1) hz3) NV.out.1).trans ((HB3.out.block _ (Zc HK.out.2.2.1)).trans HK.out.2.2.1)
     have hKq:wr.heap[q]?=some (.cells #[.int .i64 (c:Int),.int .i64 (d:Int)] 37 (0,0)):=(hK.block _ (Nat.lt_of_lt_of_le hql hz3) NV.out.2.1).trans ((HB3.out.block _ hql).trans HK.out.2.1)
     obtain⟨C,cvs,hrow,hfns,hC,hgw⟩:=hSF
     obtain⟨ga,cc,hv⟩:=ZaZ hrow
     have hSF:ZL w bf (([]:List Dact)++(L.take k).map (fun i=>((i,none):Dact))) s9 wr:=⟨C,cvs,hrow,hfns,hC,hgw⟩
     have hnf:s9.ownBlock≠some w.heap.size:=fun e=>by
      rcases hob0 with h|h
      · exact NV.out.1 (h _ e)
      · have:=h _ e
        have:=Zc HK.out.2.2.1
        omega
     have hlen:(([]:List Dact)++(L.take k).map (fun i=>((i,none):Dact))).length=([]:List Dact).length+k:=by simp;omega
     obtain⟨n0,hn0⟩:∃ n0,(([]:List Dact)++(L.take k).map (fun i=>((i,none):Dact))).length=n0:=⟨_,rfl⟩
     rw[hn0] at hrow hv hlen
     have hA0:([]:List Dact).length≤1:=by simp
     have hn100:n0<100:=by omega
     have HLEN:=hid hlen
     clear hlen
     have hzK:=hK.size
     subst hv
     by_cases hlt:k<L.length
     · have hlI:(k:Int)<(L.length:Int):=by omega
       obtain⟨hr3,hg3⟩:=HR3.out
       obtain⟨z,hz⟩:∃ z,L[k]?=some z:=⟨_,List.getElem?_eq_getElem hlt⟩
       obtain⟨gL,hgL⟩:∃ gL,sa=some ⟨gL,0,none⟩:=by
        rcases ZB hr3 with ⟨_,hl0⟩|⟨g,c2,hgv⟩
        · omega
        · cases hgv;exact⟨_,rfl⟩
       subst hgL
       have cz:wr.cell? ⟨gL,k,none⟩=some (.int .i64 (z:Int)):=by
        refine hK.cell ?_ (fun e=>NV.out.2.2 gL rfl e)
        rw[hr3.cellAt k (by simp[Zg];omega)]
        simp[Zg,hz]
       have hgl:gL<wr.heap.size:=World.block_lt_of_cell? wr _ cz
       have hgne:¬ gL=wr.heap.size:=by omega
       have HF:=hid hKf
       have HSF:=hid (And.intro (And.intro hfns (And.intro hC hgw)) (And.intro hnf (And.intro hob0 (And.intro hK hn0))))
       have HZ:=hid hz
       have hfl:=Zc hKf
       have HROW:=hid hrow
       clear hKf hKq hSF hnf hob0 hK hrow hfns hC hgw hr3 hg3 hz hn0
       go_wp2_with (at_builtin
                    refine wpList_append_own_at _ rfl _ _ 233 rfl 0 237 i0 .nilFunc 1 8 Tryz.underlying233 hi hz0 hz1 hz2 rfl (by decide) (.slice ga n0 cc) _ _ rfl ((HROW.out.alloc _).alloc _) ⟨wr.heap.size+1,0,none⟩ 1 1 [.func (.func 189) #[] #[ptr w.heap.size,ptr wr.heap.size]] rfl rfl (by have:=cell_one_new (wr.alloc (.cells #[.int .i64 (z:Int)] 3)) (.func (.func 189) #[] #[ptr w.heap.size,ptr wr.heap.size]) 237;simpa using this) (by simp[Value.oneCell']) (by unfold maxLen;omega) (by omega) (Nat.zero_le _) ?_
                    intro v' w1 hown' hgrow _ hob
                    obtain⟨g',cap',rfl⟩:=ownsRow_succ hown'
                    have HW:=hid hown'
                    have HG:=hid hgrow
                    have HOB:=hid hob
                    clear hown' hgrow hob)
       obtain⟨⟨hfns,hC,hgw⟩,hnf,hob0,hK,hn0⟩:=HSF.out
       obtain⟨W2,hW2⟩:∃ W2,(wr.alloc (.cells #[.int .i64 (z:Int)] 3)).alloc (.cells #[.func (.func 189) #[] #[ptr w.heap.size,ptr wr.heap.size]] 237)=W2:=⟨_,rfl⟩
       have hW:=HW.out
       have hG:=HG.out
       have hOB:=HOB.out
       have hb2:Below wr.heap.size wr W2:=by rw[← hW2];exact((Below.refl _ wr).alloc (Nat.le_refl _) _).alloc (by simp) _
       have hz2':W2.heap.size=wr.heap.size+2:=by rw[← hW2];simp
       have xz:W2.heap[wr.heap.size]?=some (.cells #[.int .i64 (z:Int)] 3 (0,0)):=by
        rw[← hW2,Below.heap_alloc _ _ _ (by simp)];exact heap_alloc_new wr _
       have xf:=(hb2.block _ hfl).trans HF.out
       have hvl:∀ b,(Value.slice ga n0 cc).ownBlock=some b→b<wr.heap.size:=fun b e=>(HROW.out.lt b e).2
       have hob2:(Value.slice (some ⟨g',0,none⟩) (n0+1) cap').ownBlock=(Value.slice ga n0 cc).ownBlock∨∃ k,(Value.slice (some ⟨g',0,none⟩) (n0+1) cap').ownBlock=some k∧W2.heap.size≤k:=by
        rcases hOB with e|e
        · exact .inl e
        · exact .inr ⟨_,e,by rw[← hW2];exact Nat.le_refl _⟩
       rw[show (wr.alloc (.cells #[.int .i64 (z:Int)] 3)).alloc (.cells #[.func (.func 189) #[] #[.pointer (some ⟨w.heap.size,0,none⟩),.pointer (some ⟨wr.heap.size,0,none⟩)]] 237)=W2 from hW2] at hG
       have hfn:FnAt W2 (fun b=>b=w.heap.size∨b=wr.heap.size) bf (z,none) (.func (.func 189) #[] #[ptr w.heap.size,ptr wr.heap.size]):=⟨_,_,rfl,Za xf 0,Za xz 0,.inl rfl,.inr rfl⟩
       have hkG:Zb (fun b=>(Value.slice ga n0 cc).ownBlock=some b) W2 w1:=Zb.grown hG (fun k e=>.inl e)
       have htk:(([]:List Dact)++(L.take (k+1)).map (fun i=>((i,none):Dact)))=(([]:List Dact)++(L.take k).map (fun i=>((i,none):Dact)))++[(z,none)]:=by
        rw[List.take_add_one,HZ.out]
        simp
       have hpush:ZL w bf ((([]:List Dact)++(L.take k).map (fun i=>((i,none):Dact)))++[(z,none)]) (.slice (some ⟨g',0,none⟩) (n0+1) cap') w1:=by
        refine ZL.push hfns hC hgw hb2 hfn (fun b e=>?_) hG (by rw[hn0];exact hW) hob2
        · rcases e with e|e
          · subst e
            exact⟨Nat.le_refl _,by omega,hnf⟩
          · subst e
            exact⟨by omega,by omega,fun e1=>by have:=hvl _ e1;omega⟩
       have hn0k:n0=([]:List Dact).length+k:=HLEN.out
       refine⟨⟨k+1,_,by omega,rfl,by go_num,?_,?_,?_⟩,?_⟩
       · rw[htk];first|exact hpush|(rw[hn0k] at hpush;simpa using hpush)
       · refine(hK.trans (Zb.of_below hb2)).trans (hkG.mono (fun b _ e=>?_))
         rcases hob0 with h|h
         · exact .inl (h b e)
         · exact .inr (h b e)
       · rcases hob2 with e|⟨k',e,e2⟩
         · rcases hob0 with h|h
           · exact .inl (fun b e1=>h b (e ▸ e1))
           · exact .inr (fun b e1=>h b (e ▸ e1))
         · exact .inr (fun b e1=>by
            have e3:g'=b:=by simpa[Value.ownBlock] using e1
            have e4:g'=k':=by simpa[Value.ownBlock] using e
            omega)
       · show L.length - ((k:Int)+1).toNat<L.length - ((k:Int)).toNat
         omega
     · obtain rfl:k=L.length:=by omega
       have hlI:¬ (L.length:Int)<(L.length:Int):=by omega
       have hBwr:Below w.heap.size w wr:=((Zb.of_below (F:=fun _=>False) (HBW.out.trans (HB3.out.mono HBW.out.size))).trans (hK.mono (fun b _ e=>.inr (VGE.out b e)))).below
       rw[List.take_length] at hn0 hSF hfns
       have HBR:=hid hBwr
       have HF:=hid hKf
       have HSF:=hid (And.intro hSF (And.intro (And.intro hfns (And.intro hC hgw)) (And.intro hnf hn0)))
       have hfl:=Zc hKf
       have HROW:=hid hrow
       have f0:=Za hKf 0
       have w0':=Za hKq 0
       have w1':=Za hKq 1
       have hqr:=Zc hKq
       clear hKf hKq hSF hnf hob0 hK hrow hfns hC hgw hn0 hBwr
       cases hyt:y.t with
       | false =>
         have hT:AC=([]:List Dact)++L.map (fun i=>((i,none):Dact)):=by rw[← HAC.out,hxt,hyt];simp
         have HT:=hid hT
         clear hT
         go_wp2
         go_ret
         obtain⟨hSF,_,_,hn0⟩:=HSF.out
         rw[HT.out]
         refine⟨ga,cc,?_,?_,HBR.out⟩
         · first | (rw[hn0];done)|(rw[hn0];rfl)
         · rw[hn0];exact hSF
       | true =>
         have hT:AC=(([]:List Dact)++L.map (fun i=>((i,none):Dact)))++[(c,some (0,d))]:=by rw[← HAC.out,hxt,hyt];simp
         have HT:=hid hT
         clear hT
         go_wp2_with first
          | (go_at_call 187
             refine(Zai bf (c:Int) 0 (d:Int) _).mono ?_
             rintro e w5 ⟨rfl,hw5⟩
             have hb5:Below wr.heap.size wr w5:=by
              rw[hw5]
              exact((((Below.refl _ _).alloc (Nat.le_refl _) _).alloc (by simp) _).alloc (by simp;omega) _).alloc (by simp;omega) _
             have HZ5:Hid (w5.heap.size=wr.heap.size+4):=by show _=_;rw[hw5];simp
             have hfn:=Zaj wr bf c 0 d
             rw[show (((wr.alloc (.cells #[ptr bf] 91)).alloc (.cells #[.int .i64 (c:Int)] 3)).alloc (.cells #[.int .i64 ((0:Nat):Int)] 3)).alloc (.cells #[.int .i64 (d:Int)] 3)=w5 from hw5.symm] at hfn
             have HFN:=hid hfn
             have HB5:=hid hb5
             have HROW5:=hid ((Zb.of_below (F:=fun _=>False) hb5).row HROW.out (fun _ _ e=>e))
             clear hw5 hfn hb5)
          | (at_builtin
             go_loud (refine wpList_append_own_at _ rfl _ _ 233 rfl 0 237 i0 .nilFunc 1 8 Tryz.underlying233 hi hz0 hz1 hz2 rfl (by decide) (.slice ga n0 cc) _ _ rfl (HROW5.out.alloc _) ⟨w5.heap.size,0,none⟩ 1 1 [.func (.func 198) #[] #[ptr wr.heap.size,ptr (wr.heap.size+1),ptr (wr.heap.size+2),ptr (wr.heap.size+3)]] rfl rfl (cell_one_new _ _ _) (by simp[Value.oneCell']) (by unfold maxLen;omega) (by omega) (Nat.zero_le _) ?_)
             intro v' w1 hown' hgrow _ hob
             obtain⟨g',cap',rfl⟩:=ownsRow_succ hown'
             have HW:=hid hown'
             have HG:=hid hgrow
             have HOB:=hid hob
             clear hown' hgrow hob)
         go_ret
         obtain⟨_,⟨hfns,hC,hgw⟩,hnf,hn0⟩:=HSF.out
         rw[HT.out]
         have hW:=HW.out
         have hG:=HG.out
         have hOB:=HOB.out
         have hz5:=HZ5.out
         have hvl:∀ b,(Value.slice ga n0 cc).ownBlock=some b→b<wr.heap.size:=fun b e=>(HROW.out.lt b e).2
         have hob2:(Value.slice (some ⟨g',0,none⟩) (n0+1) cap').ownBlock=(Value.slice ga n0 cc).ownBlock∨∃ k,(Value.slice (some ⟨g',0,none⟩) (n0+1) cap').ownBlock=some k∧(w5.alloc (.cells #[.func (.func 198) #[] #[ptr wr.heap.size,ptr (wr.heap.size+1),ptr (wr.heap.size+2),ptr (wr.heap.size+3)]] 237)).heap.size≤k:=by
          rcases hOB with e|e
          · exact .inl e
          · exact .inr ⟨_,e,Nat.le_refl _⟩
         have hb6:Below wr.heap.size wr (w5.alloc (.cells #[.func (.func 198) #[] #[ptr wr.heap.size,ptr (wr.heap.size+1),ptr (wr.heap.size+2),ptr (wr.heap.size+3)]] 237)):=HB5.out.alloc HB5.out.size _
         have hpush:ZL w bf ((([]:List Dact)++L.map (fun i=>((i,none):Dact)))++[(c,some (0,d))]) (.slice (some ⟨g',0,none⟩) (n0+1) cap') w1:=by
          refine ZL.push hfns hC hgw hb6 (HFN.out.keeps (G:=fun _=>False) ((Zb.refl _ w5).alloc _) (fun _ _ e=>e)) (fun b e=>?_) hG (by rw[hn0];exact hW) hob2
          have hzr:=HBR.out.size
          exact⟨by omega,by simp;omega,fun e1=>by have:=hvl _ e1;omega⟩
         refine⟨some ⟨g',0,none⟩,cap',?_,?_,?_⟩
         · rw[List.length_append,hn0];rfl
         · rw[List.length_append,hn0];exact hpush
         · exact(((Zb.of_below (F:=fun _=>False) HBR.out).trans (Zb.of_below hb6)).trans (Zb.grown hG (fun k e=>.inl (.inr (hgw k e))))).below
  | true =>
    rw[hxt] at e1
    have hne:¬ a=c:=by
     rcases hac with h|h
     · exact h
     · rw[hxt] at h;cases h
    have hnI:((a:Int) == (c:Int))=false:=by simp;omega
    have hnJ:¬ (a:Int)=(c:Int):=by omega
    clear hgd hac
    have KEEP:=hid (fun W (hB:Below wc.heap.size wc W)=>And.intro ((hB.cell (p:=⟨w.heap.size,0,none⟩) (Zc HK.out.2.2.1)).trans g0) (And.intro ((hB.cell (p:=⟨p,0,none⟩) hpl).trans p0) (And.intro ((hB.cell (p:=⟨p,1,none⟩) hpl).trans p1) (And.intro ((hB.cell (p:=⟨bf,0,none⟩) (by have:=HBW.out.size;simp only;omega)).trans e0) ((hB.cell (p:=⟨bn,a*4+3,none⟩) (by have:=HBW.out.size;simp only;omega)).trans e3)))))
    go_wp2
    go_quiet (fail)
    go_wp2_with fail
    go_region_held3 (fun w'=>w'.cell? ⟨w.heap.size,0,none⟩=some (ptr bf)∧w'.cell? ⟨p,0,none⟩=some (.int .i64 (a:Int))∧w'.cell? ⟨p,1,none⟩=some (.int .i64 (b:Int))∧w'.cell? ⟨bf,0,none⟩=some (.slice (some ⟨bn,0,none⟩) s.length cap)∧w'.cell? ⟨bn,a*4+3,none⟩=some (.string (catB x.cs))) (first|exact KP7.out|exact KP5.out|exact KP6.out|exact KP4.out|exact KEEP.out _ (JE _ _)|exact KEEP.out _ (Zj (JE _ _) _)|go_keep) (first
     | (refine step_append_lies _ rfl (.tmp 52) (.tmp 69) 233 rfl 0 237 i0 _ 1 8 Tryz.underlying233 hi hz0 hz1 hz2 rfl (by decide) (.slice none 0 0) 0 [] (by simp[Act.eval,Act.put]) (World.ownsRow_nil _ _ _ _) ⟨w5.heap.size,0,none⟩ 1 1 [.func (.func 198) #[] #[ptr w4.heap.size,ptr (w4.heap.size+1),ptr (w4.heap.size+2),ptr (w4.heap.size+3)]] (by simp[Act.eval,Act.put]) rfl (cell_one_new _ _ _) (by simp[Value.oneCell']) (by decide) (by unfold maxLen;omega) (by omega) (Nat.zero_le _) (w5.heap.size+1) (by simp) ?_
        intro g' cap' w7 ho7 hg7 hgn7 _
        have hb7:Below w5.heap.size w5 w7:=((Zb.refl (fun _=>False) w5).alloc _ |>.trans (Zb.grown hg7 (fun k e=>by cases e))).below
        have hb7c:Below wc.heap.size wc w7:=HB5.out.trans (hb7.mono HB5.out.size)
        have KP7:=hid (KEEP.out w7 hb7c)
        have HB7:=hid hb7c
        have HW7:=hid (And.intro ho7 (And.intro hgn7 hb7))
        clear ho7 hg7 hgn7 hb7 hb7c)
     | (go_at_call 187
        refine(Zai bf (a:Int) (b:Int) (x.cs.length:Int) _).mono ?_
        rintro e w5 ⟨rfl,hw5⟩
        have hb5:Below w4.heap.size w4 w5:=by
         rw[hw5]
         exact((((Below.refl _ _).alloc (Nat.le_refl _) _).alloc (by simp) _).alloc (by simp;omega) _).alloc (by simp;omega) _
        have HZ5:Hid (w5.heap.size=w4.heap.size+4):=by show _=_;rw[hw5];simp
        have hfn:=Zaj w4 bf a b x.cs.length
        rw[show (((w4.alloc (.cells #[ptr bf] 91)).alloc (.cells #[.int .i64 (a:Int)] 3)).alloc (.cells #[.int .i64 (b:Int)] 3)).alloc (.cells #[.int .i64 (x.cs.length:Int)] 3)=w5 from hw5.symm] at hfn
        have HFN:=hid hfn
        have hb5c:Below wc.heap.size wc w5:=HB4.out.trans (hb5.mono HB4.out.size)
        have KP5:=hid (KEEP.out w5 hb5c)
        have KP6:=hid (KEEP.out _ (hb5c.alloc hb5c.size (.cells #[.func (.func 198) #[] #[ptr w4.heap.size,ptr (w4.heap.size+1),ptr (w4.heap.size+2),ptr (w4.heap.size+3)]] 237)))
        have HB5:=hid hb5c
        clear hw5 hfn hb5 hb5c)
     | (go_at_call 105
        refine(CC.out _).mono ?_
        rintro e w4 ⟨rfl,hb4⟩
        have hb4c:Below wc.heap.size wc w4:=⟨hb4.os,hb4.tape,hb4.output,hb4.size,hb4.block⟩
        have KP4:=hid (KEEP.out w4 hb4c)
        have HB4:=hid hb4c
        clear hb4 hb4c))
    all_goals
     obtain⟨ho7,hgn7,hb7⟩:=HW7.out
     have hg5:g'=w5.heap.size+1:=by
      rcases hgn7 with e|e
      · cases e
      · exact e
     have hz5:=HZ5.out
     have hzc4:=HB4.out.size
     have hz1w:=HBW.out.size
     have hz7:w5.heap.size≤w7.heap.size:=hb7.size
     have hg7l:g' < w7.heap.size:=(ho7.lt g' rfl).2
     have hbw7:Below w.heap.size w w7:=HBW.out.trans (HB7.out.mono HBW.out.size)
     have SF7:Hid (ZL w bf [(a,some (b,x.cs.length))] (.slice (some ⟨g',0,none⟩) 1 cap') w7):=by
      refine⟨fun k=>w4.heap.size≤k∧k<w4.heap.size+4,[.func (.func 198) #[] #[ptr w4.heap.size,ptr (w4.heap.size+1),ptr (w4.heap.size+2),ptr (w4.heap.size+3)]],by simpa using ho7,?_,fun k e=>⟨by omega,by omega,?_⟩,fun k e=>?_⟩
      · exact((Yh.nil w5 _ bf).snoc HFN.out).keeps (G:=fun _=>False) (Zb.of_below hb7) (fun _ _ e=>e)
      · intro e1
        have e':g'=k:=by simpa[Value.ownBlock] using e1
        omega
      · have e':g'=k:=by simpa[Value.ownBlock] using e
        omega
     have HBW7:=hid hbw7
     have HG7:Hid (wc.heap.size≤g'∧g' < w7.heap.size):=⟨by omega,hg7l⟩
     have KP:=KEEP.out w7 HB7.out
     obtain⟨k0,k1,k2,k3,k4⟩:=KP
     have hspan:=(HB7.out.block _ (Zc HK.out.2.2.2)).trans HK.out.2.2.2
     have sp0:=Za hspan 0
     have sp1:=Za hspan 1
     have sp2:=Za hspan 2
     have sp3:=Za hspan 3
     clear ho7 hgn7 hb7 hg5 hz5 hzc4 hz1w hz7 hg7l hbw7 hspan
     go_wp2_with (
      go_at_call 188
      refine(CI.out _ HBW7.out).mono ?_
      rintro e w3 ⟨sa,sc,rfl,hr3,hb3,hg3⟩
      have HR3:=hid (And.intro hr3 hg3)
      have SF:=hid (SF7.out.below hb3)
      have hb3':Below wc.heap.size wc w3:=HB7.out.trans (hb3.mono HB7.out.size)
      have HB3:=hid hb3'
      have hz3:=hb3'.size
      clear hr3 hb3 hg3 hb3')
     have NV:Hid ((Value.slice (some ⟨g',0,none⟩) 1 cap').ownBlock≠some w.heap.size∧(Value.slice (some ⟨g',0,none⟩) 1 cap').ownBlock≠some q∧(∀ gL,sa=some ⟨gL,0,none⟩→(Value.slice (some ⟨g',0,none⟩) 1 cap').ownBlock≠some gL)):=by
      have h1:=HG7.out
      have h2:=Zc HK.out.2.2.1
      refine⟨fun e=>?_,fun e=>?_,fun gL hgL e=>?_⟩
      · have e':g'=w.heap.size:=by simpa[Value.ownBlock] using e
        omega
      · have e':g'=q:=by simpa[Value.ownBlock] using e
        omega
      · have e':g'=gL:=by simpa[Value.ownBlock] using e
        have h3:=HR3.out.2 gL (by rw[hgL];rfl)
        omega
     have VGE:Hid (∀ b,(Value.slice (some ⟨g',0,none⟩) 1 cap').ownBlock=some b→w.heap.size≤b):=by
      intro k e
      have h1:=HG7.out
      have h2:=HBW.out.size
      have e':g'=k:=by simpa[Value.ownBlock] using e
      omega
     go_loopw [9,75] (fun t9 s75 wr=>∃ (k:Nat) (s9:Value),k≤L.length∧t9=s9∧s75=.int .i64 (k:Int)∧ZL w bf (([(a,some (b,x.cs.length))]:List Dact)++(L.take k).map (fun i=>((i,none):Dact))) s9 wr∧Zb (fun b=>(Value.slice (some ⟨g',0,none⟩) 1 cap').ownBlock=some b) w3 wr∧((∀ b,s9.ownBlock=some b→(Value.slice (some ⟨g',0,none⟩) 1 cap').ownBlock=some b)∨∀ b,s9.ownBlock=some b→w3.heap.size≤b)) (fun _ t _=>Yj L.length t)
     case atStart=>exact⟨0,_,Nat.zero_le _,rfl,rfl,by simpa using SF.out,Zb.refl _ _,.inl (fun b e=>e)⟩
     case round =>
      obtain⟨k,s9,hk,h9,rfl,hSF,hK,hob0⟩:=hrel
      replace h9:=h9.symm
      subst h9
      have hKf:wr.heap[w.heap.size]?=some (.cells #[ptr bf] 91 (0,0)):=(hK.block _ (Nat.lt_of_lt_of_le (Zc HK.out.2.2.1) hz3) NV.out.1).trans ((HB3.out.block _ (Zc HK.out.2.2.1)).trans HK.out.2.2.1)
      have hKq:wr.heap[q]?=some (.cells #[.int .i64 (c:Int),.int .i64 (d:Int)] 37 (0,0)):=(hK.block _ (Nat.lt_of_lt_of_le hql hz3) NV.out.2.1).trans ((HB3.out.block _ hql).trans HK.out.2.1)
      obtain⟨C,cvs,hrow,hfns,hC,hgw⟩:=hSF
      obtain⟨ga,cc,hv⟩:=ZaZ hrow
      have hSF:ZL w bf (([(a,some (b,x.cs.length))]:List Dact)++(L.take k).map (fun i=>((i,none):Dact))) s9 wr:=⟨C,cvs,hrow,hfns,hC,hgw⟩
      have hnf:s9.ownBlock≠some w.heap.size:=fun e=>by
       rcases hob0 with h|h
       · exact NV.out.1 (h _ e)
       · have:=h _ e
         have:=Zc HK.out.2.2.1
         omega
      have hlen:(([(a,some (b,x.cs.length))]:List Dact)++(L.take k).map (fun i=>((i,none):Dact))).length=([(a,some (b,x.cs.length))]:List Dact).length+k:=by simp;omega
      obtain⟨n0,hn0⟩:∃ n0,(([(a,some (b,x.cs.length))]:List Dact)++(L.take k).map (fun i=>((i,none):Dact))).length=n0:=⟨_,rfl⟩
      rw[hn0] at hrow hv hlen
      have hA0:([(a,some (b,x.cs.length))]:List Dact).length≤1:=by simp
      have hn100:n0<100:=by omega
      have HLEN:=hid hlen
      clear hlen
      have hzK:=hK.size
      subst hv
      by_cases hlt:k<L.length
      · have hlI:(k:Int)<(L.length:Int):=by omega
        obtain⟨hr3,hg3⟩:=HR3.out
        obtain⟨z,hz⟩:∃ z,L[k]?=some z:=⟨_,List.getElem?_eq_getElem hlt⟩
        obtain⟨gL,hgL⟩:∃ gL,sa=some ⟨gL,0,none⟩:=by
         rcases ZB hr3 with ⟨_,hl0⟩|⟨g,c2,hgv⟩
         · omega
         · cases hgv;exact⟨_,rfl⟩
        subst hgL
        have cz:wr.cell? ⟨gL,k,none⟩=some (.int .i64 (z:Int)):=by
         refine hK.cell ?_ (fun e=>NV.out.2.2 gL rfl e)
         rw[hr3.cellAt k (by simp[Zg];omega)]
         simp[Zg,hz]
        have hgl:gL<wr.heap.size:=World.block_lt_of_cell? wr _ cz
        have hgne:¬ gL=wr.heap.size:=by omega
        have HF:=hid hKf
        have HSF:=hid (And.intro (And.intro hfns (And.intro hC hgw)) (And.intro hnf (And.intro hob0 (And.intro hK hn0))))
        have HZ:=hid hz
        have hfl:=Zc hKf
        have HROW:=hid hrow
        clear hKf hKq hSF hnf hob0 hK hrow hfns hC hgw hr3 hg3 hz hn0
        go_wp2_with (at_builtin
                     refine wpList_append_own_at _ rfl _ _ 233 rfl 0 237 i0 .nilFunc 1 8 Tryz.underlying233 hi hz0 hz1 hz2 rfl (by decide) (.slice ga n0 cc) _ _ rfl ((HROW.out.alloc _).alloc _) ⟨wr.heap.size+1,0,none⟩ 1 1 [.func (.func 189) #[] #[ptr w.heap.size,ptr wr.heap.size]] rfl rfl (by have:=cell_one_new (wr.alloc (.cells #[.int .i64 (z:Int)] 3)) (.func (.func 189) #[] #[ptr w.heap.size,ptr wr.heap.size]) 237;simpa using this) (by simp[Value.oneCell']) (by unfold maxLen;omega) (by omega) (Nat.zero_le _) ?_
                     intro v' w1 hown' hgrow _ hob
                     obtain⟨g',cap',rfl⟩:=ownsRow_succ hown'
                     have HW:=hid hown'
                     have HG:=hid hgrow
                     have HOB:=hid hob
                     clear hown' hgrow hob)
        obtain⟨⟨hfns,hC,hgw⟩,hnf,hob0,hK,hn0⟩:=HSF.out
        obtain⟨W2,hW2⟩:∃ W2,(wr.alloc (.cells #[.int .i64 (z:Int)] 3)).alloc (.cells #[.func (.func 189) #[] #[ptr w.heap.size,ptr wr.heap.size]] 237)=W2:=⟨_,rfl⟩
        have hW:=HW.out
        have hG:=HG.out
        have hOB:=HOB.out
        have hb2:Below wr.heap.size wr W2:=by rw[← hW2];exact((Below.refl _ wr).alloc (Nat.le_refl _) _).alloc (by simp) _
        have hz2':W2.heap.size=wr.heap.size+2:=by rw[← hW2];simp
        have xz:W2.heap[wr.heap.size]?=some (.cells #[.int .i64 (z:Int)] 3 (0,0)):=by
         rw[← hW2,Below.heap_alloc _ _ _ (by simp)];exact heap_alloc_new wr _
        have xf:=(hb2.block _ hfl).trans HF.out
        have hvl:∀ b,(Value.slice ga n0 cc).ownBlock=some b→b<wr.heap.size:=fun b e=>(HROW.out.lt b e).2
        have hob2:(Value.slice (some ⟨g',0,none⟩) (n0+1) cap').ownBlock=(Value.slice ga n0 cc).ownBlock∨∃ k,(Value.slice (some ⟨g',0,none⟩) (n0+1) cap').ownBlock=some k∧W2.heap.size≤k:=by
         rcases hOB with e|e
         · exact .inl e
         · exact .inr ⟨_,e,by rw[← hW2];exact Nat.le_refl _⟩
        rw[show (wr.alloc (.cells #[.int .i64 (z:Int)] 3)).alloc (.cells #[.func (.func 189) #[] #[.pointer (some ⟨w.heap.size,0,none⟩),.pointer (some ⟨wr.heap.size,0,none⟩)]] 237)=W2 from hW2] at hG
        have hfn:FnAt W2 (fun b=>b=w.heap.size∨b=wr.heap.size) bf (z,none) (.func (.func 189) #[] #[ptr w.heap.size,ptr wr.heap.size]):=⟨_,_,rfl,Za xf 0,Za xz 0,.inl rfl,.inr rfl⟩
        have hkG:Zb (fun b=>(Value.slice ga n0 cc).ownBlock=some b) W2 w1:=Zb.grown hG (fun k e=>.inl e)
        have htk:(([(a,some (b,x.cs.length))]:List Dact)++(L.take (k+1)).map (fun i=>((i,none):Dact)))=(([(a,some (b,x.cs.length))]:List Dact)++(L.take k).map (fun i=>((i,none):Dact)))++[(z,none)]:=by
         rw[List.take_add_one,HZ.out]
         simp
        have hpush:ZL w bf ((([(a,some (b,x.cs.length))]:List Dact)++(L.take k).map (fun i=>((i,none):Dact)))++[(z,none)]) (.slice (some ⟨g',0,none⟩) (n0+1) cap') w1:=by
         refine ZL.push hfns hC hgw hb2 hfn (fun b e=>?_) hG (by rw[hn0];exact hW) hob2
         · rcases e with e|e
           · subst e
             exact⟨Nat.le_refl _,by omega,hnf⟩
           · subst e
             exact⟨by omega,by omega,fun e1=>by have:=hvl _ e1;omega⟩
        have hn0k:n0=([(a,some (b,x.cs.length))]:List Dact).length+k:=HLEN.out
        refine⟨⟨k+1,_,by omega,rfl,by go_num,?_,?_,?_⟩,?_⟩
        · rw[htk];first|exact hpush|(rw[hn0k] at hpush;simpa using hpush)
        · refine(hK.trans (Zb.of_below hb2)).trans (hkG.mono (fun b _ e=>?_))
          rcases hob0 with h|h
          · exact .inl (h b e)
          · exact .inr (h b e)
        · rcases hob2 with e|⟨k',e,e2⟩
          · rcases hob0 with h|h
            · exact .inl (fun b e1=>h b (e ▸ e1))
            · exact .inr (fun b e1=>h b (e ▸ e1))
          · exact .inr (fun b e1=>by
             have e3:g'=b:=by simpa[Value.ownBlock] using e1
             have e4:g'=k':=by simpa[Value.ownBlock] using e
             omega)
        · show L.length - ((k:Int)+1).toNat<L.length - ((k:Int)).toNat
          omega
      · obtain rfl:k=L.length:=by omega
        have hlI:¬ (L.length:Int)<(L.length:Int):=by omega
        have hBwr:Below w.heap.size w wr:=((Zb.of_below (F:=fun _=>False) (HBW.out.trans (HB3.out.mono HBW.out.size))).trans (hK.mono (fun b _ e=>.inr (VGE.out b e)))).below
        rw[List.take_length] at hn0 hSF hfns
        have HBR:=hid hBwr
        have HF:=hid hKf
        have HSF:=hid (And.intro hSF (And.intro (And.intro hfns (And.intro hC hgw)) (And.intro hnf hn0)))
        have hfl:=Zc hKf
        have HROW:=hid hrow
        have f0:=Za hKf 0
        have w0':=Za hKq 0
        have w1':=Za hKq 1
        have hqr:=Zc hKq
        clear hKf hKq hSF hnf hob0 hK hrow hfns hC hgw hn0 hBwr
        cases hyt:y.t with
        | false =>
          have hT:AC=([(a,some (b,x.cs.length))]:List Dact)++L.map (fun i=>((i,none):Dact)):=by rw[← HAC.out,hxt,hyt];simp
          have HT:=hid hT
          clear hT
          go_wp2
          go_ret
          obtain⟨hSF,_,_,hn0⟩:=HSF.out
          rw[HT.out]
          refine⟨ga,cc,?_,?_,HBR.out⟩
          · first | (rw[hn0];done)|(rw[hn0];rfl)
          · rw[hn0];exact hSF
        | true =>
          have hT:AC=(([(a,some (b,x.cs.length))]:List Dact)++L.map (fun i=>((i,none):Dact)))++[(c,some (0,d))]:=by rw[← HAC.out,hxt,hyt];simp
          have HT:=hid hT
          clear hT
          go_wp2_with first
           | (go_at_call 187
              refine(Zai bf (c:Int) 0 (d:Int) _).mono ?_
              rintro e w5 ⟨rfl,hw5⟩
              have hb5:Below wr.heap.size wr w5:=by
               rw[hw5]
               exact((((Below.refl _ _).alloc (Nat.le_refl _) _).alloc (by simp) _).alloc (by simp;omega) _).alloc (by simp;omega) _
              have HZ5:Hid (w5.heap.size=wr.heap.size+4):=by show _=_;rw[hw5];simp
              have hfn:=Zaj wr bf c 0 d
              rw[show (((wr.alloc (.cells #[ptr bf] 91)).alloc (.cells #[.int .i64 (c:Int)] 3)).alloc (.cells #[.int .i64 ((0:Nat):Int)] 3)).alloc (.cells #[.int .i64 (d:Int)] 3)=w5 from hw5.symm] at hfn
              have HFN:=hid hfn
              have HB5:=hid hb5
              have HROW5:=hid ((Zb.of_below (F:=fun _=>False) hb5).row HROW.out (fun _ _ e=>e))
              clear hw5 hfn hb5)
           | (at_builtin
              go_loud (refine wpList_append_own_at _ rfl _ _ 233 rfl 0 237 i0 .nilFunc 1 8 Tryz.underlying233 hi hz0 hz1 hz2 rfl (by decide) (.slice ga n0 cc) _ _ rfl (HROW5.out.alloc _) ⟨w5.heap.size,0,none⟩ 1 1 [.func (.func 198) #[] #[ptr wr.heap.size,ptr (wr.heap.size+1),ptr (wr.heap.size+2),ptr (wr.heap.size+3)]] rfl rfl (cell_one_new _ _ _) (by simp[Value.oneCell']) (by unfold maxLen;omega) (by omega) (Nat.zero_le _) ?_)
              intro v' w1 hown' hgrow _ hob
              obtain⟨g',cap',rfl⟩:=ownsRow_succ hown'
              have HW:=hid hown'
              have HG:=hid hgrow
              have HOB:=hid hob
              clear hown' hgrow hob)
          go_ret
          obtain⟨_,⟨hfns,hC,hgw⟩,hnf,hn0⟩:=HSF.out
          rw[HT.out]
          have hW:=HW.out
          have hG:=HG.out
          have hOB:=HOB.out
          have hz5:=HZ5.out
          have hvl:∀ b,(Value.slice ga n0 cc).ownBlock=some b→b<wr.heap.size:=fun b e=>(HROW.out.lt b e).2
          have hob2:(Value.slice (some ⟨g',0,none⟩) (n0+1) cap').ownBlock=(Value.slice ga n0 cc).ownBlock∨∃ k,(Value.slice (some ⟨g',0,none⟩) (n0+1) cap').ownBlock=some k∧(w5.alloc (.cells #[.func (.func 198) #[] #[ptr wr.heap.size,ptr (wr.heap.size+1),ptr (wr.heap.size+2),ptr (wr.heap.size+3)]] 237)).heap.size≤k:=by
           rcases hOB with e|e
           · exact .inl e
           · exact .inr ⟨_,e,Nat.le_refl _⟩
          have hb6:Below wr.heap.size wr (w5.alloc (.cells #[.func (.func 198) #[] #[ptr wr.heap.size,ptr (wr.heap.size+1),ptr (wr.heap.size+2),ptr (wr.heap.size+3)]] 237)):=HB5.out.alloc HB5.out.size _
          have hpush:ZL w bf ((([(a,some (b,x.cs.length))]:List Dact)++L.map (fun i=>((i,none):Dact)))++[(c,some (0,d))]) (.slice (some ⟨g',0,none⟩) (n0+1) cap') w1:=by
           refine ZL.push hfns hC hgw hb6 (HFN.out.keeps (G:=fun _=>False) ((Zb.refl _ w5).alloc _) (fun _ _ e=>e)) (fun b e=>?_) hG (by rw[hn0];exact hW) hob2
           have hzr:=HBR.out.size
           exact⟨by omega,by simp;omega,fun e1=>by have:=hvl _ e1;omega⟩
          refine⟨some ⟨g',0,none⟩,cap',?_,?_,?_⟩
          · rw[List.length_append,hn0];rfl
          · rw[List.length_append,hn0];exact hpush
          · exact(((Zb.of_below (F:=fun _=>False) HBR.out).trans (Zb.of_below hb6)).trans (Zb.grown hG (fun k e=>.inl (.inr (hgw k e))))).below
end
end
end Go.Proofs.YtabogkonklplcaaGreatDoor
