import Derived.Test.YtabogkonklplcaaGreatDoorJ36
import Derived.Test.YtabogkonklplcaaGreatDoorJ37
import Derived.Test.YtabogkonklplcaaGreatDoorJ39
import Derived.Test.YtabogkonklplcaaGreatDoorJ24
import Derived.Test.YtabogkonklplcaaGreatDoorJ48
import Derived.Test.YtabogkonklplcaaGreatDoorJ46
import Derived.Test.YtabogkonklplcaaGreatDoorJ47
import Derived.Test.YtabogkonklplcaaGreatDoorJ34
import Derived.Test.YtabogkonklplcaaGreatDoorJ40
import Derived.Test.YtabogkonklplcaaGreatDoorJ44
import Derived.Test.YtabogkonklplcaaGreatDoorJ18
import Derived.Test.YtabogkonklplcaaGreatDoorJ29
import Derived.Deep.RegionHeld3
namespace Go.Proofs.YtabogkonklplcaaGreatDoor
set_option linter.unusedSimpArgs false
set_option linter.unusedVariables false
set_option maxRecDepth 20000
set_option maxHeartbeats 8000000
section
open Go.RowKit Go.Lib
theorem ZiX {V:List Nd→Sp→Prop} (hV:Yq V) (s:List Nd) (wf:WF s) (rs:List Sp) (h6:rs.length≤6) (hrs:∀ z∈rs,V s z) (A B C:Int):Ans (Z7 V) GG ⟨s,rs⟩ 54 75 [.int .i64 A,.int .i64 B,.int .i64 C] (fun v=>v) (fun v=>v):=by
 have hcap:=wf.cap
 have no:∀ (n y:Int),y≠0→(∀ (w:World) (F:Nat→Prop) (bf bn cap:Nat) (pn:List PN),Zh w F bf bn cap pn s→Calls Tryz.prog 146 #[ptr bf,.int .i64 A,.int .i64 B,.int .i64 C] w fun e w'=>e=.returned (ZO n y)∧Below w.heap.size w w') →
  (∀ (w:World) (F:Nat→Prop) (bd bn cap:Nat) (rn:List RN) (rv:Value),Zf w F bd bn cap rn rv s rs→Calls Tryz.prog 75 #[ptr bd,.int .i64 A,.int .i64 B,.int .i64 C] w fun e w'=>e=.returned (.agg #[.int .i64 n,.int .i64 y])∧Below w.heap.size w w') →
  Ans (Z7 V) GG ⟨s,rs⟩ 54 75 [.int .i64 A,.int .i64 B,.int .i64 C] (fun v=>v) (fun v=>v):=by
  intro n y hy hT hR
  refine⟨n,y,⟨s,rs⟩,⟨wf,h6,hrs⟩,?_,?_⟩
  · intro w F bx hg hP
    refine Zgw hg hP A B C (Yi n y hy) (fun F' bf h=>Ziz h A B C n y ?_)
    obtain⟨bn,cap,pn,h⟩:=h
    exact hT w F' bf bn cap pn h
  · intro w F bd hD
    have hD':=hD
    obtain⟨bn,cap,rn,rv,hD⟩:=hD
    exact(hR w F bd bn cap rn rv hD).mono fun e w' ⟨h1,h2⟩=>⟨h1,Zb.of_below h2,hD'.afterR h2⟩
 cases hA:isB s A with
 | false=>exact no A 1 (by decide) (fun w F bf bn cap pn h=>Zgt h A B C hA) (fun w F bd bn cap rn rv h=>Zhv h A B C hA)
 | true =>
   cases hB:isB s B with
   | false=>exact no B 1 (by decide) (fun w F bf bn cap pn h=>may_node h A B C hA hB) (fun w F bd bn cap rn rv h=>Zhu h A B C hA hB)
   | true =>
     obtain⟨a1,a2⟩:=Y2 hA
     obtain⟨b1,b2⟩:=Y2 hB
     obtain⟨i,rfl⟩:∃ i:Nat,A=(i:Int):=⟨A.toNat,by omega⟩
     obtain⟨j,rfl⟩:∃ j:Nat,B=(j:Int):=⟨B.toNat,by omega⟩
     have hi:i<s.length:=by omega
     have hj:j<s.length:=by omega
     obtain⟨x,hx⟩:∃ x,s[i]?=some x:=⟨_,List.getElem?_eq_getElem hi⟩
     obtain⟨y,hy⟩:∃ y,s[j]?=some y:=⟨_,List.getElem?_eq_getElem hj⟩
     cases ht:x.t with
     | true=>exact no i 2 (by decide) (fun w F bf bn cap pn h=>may_kind h i j C x hx hj ht) (fun w F bd bn cap rn rv h=>Zht h i j C x hx hj ht)
     | false =>
       by_cases hj0:j=0
       · subst hj0
         exact no _ 4 (by decide) (fun w F bf bn cap pn h=>may_root h i C x hx ht) (fun w F bd bn cap rn rv h=>Zd9 h i 0 C x y hx hy ht (.inl rfl))
       · by_cases hp:0≤y.p
         · exact no j 4 (by decide) (fun w F bf bn cap pn h=>may_has h i j C x y hx hy ht (by omega) hp) (fun w F bd bn cap rn rv h=>Zd9 h i j C x y hx hy ht (.inr hp))
         · have hI:YI s i j x y:=⟨hx,hy,ht,by omega,by omega⟩
           obtain⟨ht0,Bd,u⟩:=wf.up
           by_cases hm:i∈allF s (ht0 j+1) j
           · exact no j 5 (by decide) (fun w F bf bn cap pn h=>Zgr wf u h i j (ht0 j+1) C x y hI (by omega) hm) (fun w F bd bn cap rn rv h=>Zhr h u i j C x y hI (Zay wf hi hm))
           · have hw:=JV wf u hi (Nat.lt_succ_self _) hm
             by_cases hC:C<0∨(x.ks.length:Int)<C
             · exact no i 3 (by decide) (fun w F bf bn cap pn h=>Zgs wf u h i j (ht0 j+1) C x y hI (by omega) hm hC) (fun w F bd bn cap rn rv h=>Zhs h u i j C x y hI hw hC)
             · obtain⟨c,rfl⟩:∃ c:Nat,C=(c:Int):=⟨C.toNat,by omega⟩
               have hc:c≤x.ks.length:=by omega
               obtain⟨hij,hwf⟩:=Zcg wf hI hw hc
               have hkl:x.ks.length≤40:=Nat.le_trans (Xx s.length _ (wf.nodup i x hx) (fun q hq=>(wf.kid_lt u hx hq).1)) wf.cap
               refine⟨0,0,⟨_,rs.map (mvSp (Ze i c 1))⟩,⟨hwf,by simpa using h6,mapV hrs (fun z hz=>hV.insert wf hI hw hc hij hz)⟩,?_,?_⟩
               · intro w F bx hg hP
                 exact Zgv hg hP (Small.of wf (fun z hz=>hV.place (hrs z hz))) h6 i j c (fun F' bf h=>Ziy wf u h i j (ht0 j+1) c x y hI (by omega) hm hc hij (by unfold lots;omega) (by unfold lots;omega))
               · rintro w F bd ⟨bn,cap,rn,rv,hD⟩
                 exact(Zhq hD u i j c x y hI hw hc (by unfold lots;omega) hij (Small.of wf (fun z hz=>hV.place (hrs z hz))) h6).mono fun e w' h=>h
end
section
open Go.RowKit
section
variable {w:World} {F:Nat→Prop} {bd bn cap:Nat} {rn:List RN} {rv:Value} {s:List Nd} {rs:List Sp}
theorem ZhM (hD:Zf w F bd bn cap rn rv s rs) (n k:Nat) (x:Nd) (hx:s[n]?=some x) (ht:x.t=true) (hlen:x.cs.length≤30) (hk:k≤x.cs.length) (h40:s.length < 40) (hp:x.p < 0) (hsm:Small rs) (h6:rs.length≤6) :
 Calls Tryz.prog 79 #[.pointer (some ⟨bd,0,none⟩),.int .i64 n,.int .i64 k] w fun e w'=>e=.returned (.tuple #[.int .i64 s.length,Zi 0 0])∧Zb F w w' ∧
  RDoc w' (fun b=>F b∨w.heap.size≤b) bd ((s++[(⟨true,x.cs.drop k,[],x.p⟩:Nd)]).set n { x with cs:=x.cs.take k }) (rs.map (mvSp (Zl n k ((x.cs.length - k:Nat):Int) 0))):=by
 obtain⟨i0,hi,hz0,hz1,hz2⟩:=info_parts Tryz.info9
 obtain⟨j0,hj,jz0,jz1,jz2⟩:=info_parts Tryz.info119
 have hn:n<s.length:=(List.getElem?_eq_some_iff.1 hx).1
 have CF:=hid (XX (hD.below (Z1 w)) n k x hx ht hk)
 have h1b:((0:Int) == 0)=true:=rfl
 have h40b:decide ((40:Int)≤(s.length:Int))=false:=decide_eq_false (by omega)
 have h0:=hD.nodesCell
 have hlt:=hD.lt
 have hlenE:=hD.len
 have hpd:decide (0≤x.p)=false:=decide_eq_false (by omega)
 have hpd':¬ (0:Int)≤x.p:=by omega
 obtain⟨r,hr,ho,-,hc1,-,hc3⟩:=hD.look hx
 obtain⟨ta,tc,hsl,hsrc⟩:=Zeh (t:=107) Tryz.underlying107 Tryz.elem107 Tryz.sizeOf9 ho.chars (Jp _) k hk (fun w=>by kernel_rfl)
 obtain⟨ca,cc,hcv⟩:=Zo ho.chars
 rw[hcv] at hc1 hsl hsrc
 have HROW:=hid ho.chars
 rw[hcv] at HROW
 have HSRC:=hid hsrc
 have HTB:=hid (Z1 w)
 have HD:=hid hD
 have HSM:=hid hsm
 clear hsm
 have HX:=hid hx
 clear hD hr ho hcv hx ht hsrc
 go_enter Tryz.func79,Tryz.ntmps79
 go_wp2_with (first
  | (go_at_call 123;refine CF.out.mono ?_;rintro e w1 ⟨rfl,hb1⟩
     have hq2:w1.heap[w.heap.size]?=some (.cells #[.int .i64 0,.int .i64 0] 32 (0,0)):=by
      rw[hb1.block _ (by simp)]
      exact heap_alloc_new w _
     have hs1:w.heap.size+1≤w1.heap.size:=by have:=hb1.size;simpa using this
     have HB1:=hid (HTB.out.trans (hb1.mono HTB.out.size))
     have HQ2:=hid hq2
     clear hb1 hq2)
  | (go_at_call 124;refine(Zy 0 0 _).mono ?_;rintro e w2 ⟨rfl,hb2⟩
     have hf2:w2.heap[w1.heap.size]?=some (.cells #[.int .i64 0,.int .i64 0] 32 (0,0)):=(hb2.block _ (by simp)).trans (heap_alloc_new w1 _)
     have hz2:w2.heap[w.heap.size]?=some (.cells #[.int .i64 0,.int .i64 0] 32 (0,0)) :=
      (hb2.block _ (by simp;omega)).trans ((((Below.refl _ w1).alloc (Nat.le_refl _) _).block _ (by omega)).trans HQ2.out)
     have cf0:w2.cell? ⟨w1.heap.size,0,none⟩=some (.int .i64 0):=Za hf2 0
     have cf1:w2.cell? ⟨w1.heap.size,1,none⟩=some (.int .i64 0):=Za hf2 1
     have cz0:w2.cell? ⟨w.heap.size,0,none⟩=some (.int .i64 0):=Za hz2 0
     have cz1:w2.cell? ⟨w.heap.size,1,none⟩=some (.int .i64 0):=Za hz2 1
     have fz0:=Zd hz2 0
     have fz1:=Zd hz2 1
     have HB2:=hid ((HB1.out.alloc HB1.out.size _).trans (hb2.mono (Nat.le_trans HB1.out.size (by simp))))
     have hs2:w.heap.size+1≤w2.heap.size:=by have:=hb2.size;simp at this;omega
     clear hb2
     have HZ:=hid hz2
     have d0:=(HB2.out.cell (p:=⟨bd,0,none⟩) hlt.1).trans h0
     have d1:=(HB2.out.cell (p:=⟨bn,n*4+1,none⟩) hlt.2).trans hc1
     have d3:=(HB2.out.cell (p:=⟨bn,n*4+3,none⟩) hlt.2).trans hc3
     have S2:=hid (HSRC.out w2 ((Zb.of_below (F:=fun _=>False) HB2.out).row HROW.out (fun _ _ e=>e)))
     have HF:=hid (And.intro hf2 hf2)
     clear hz2
     rw[h1b])
  | (at_builtin;refine X1 _ rfl (.tmp 32) (.tmp 42) 107 rfl w2.heap.size 9 i0 (.string ByteArray.empty) 1 16 Tryz.underlying107 hi hz0 hz1 hz2 rfl (by decide) (.slice none 0 0) 0 [] rfl (World.ownsRow_nil _ _ _ _) _ _ _ rfl S2.out (by unfold maxLen;omega) (by omega) (Nat.le_refl _) ?_
     intro v1 w3 ho1 hb1
     obtain⟨va,vc,hv1⟩:=Zo ho1
     subst hv1
     have hh:=HB2.out.trans (hb1.mono HB2.out.size)
     have hz:=hh.size
     have d0':=(hh.cell (p:=⟨bd,0,none⟩) hlt.1).trans h0
     have d3':=(hh.cell (p:=⟨bn,n*4+3,none⟩) hlt.2).trans hc3
     have HO1:=hid ho1
     have HB3:=hid hh
     have hz3:w3.heap[w.heap.size]?=some (.cells #[.int .i64 0,.int .i64 0] 32 (0,0)):=(hb1.block _ (Zc HZ.out)).trans HZ.out
     have HZ3:=hid hz3
     have HW3:=hid (And.intro hz (Zc hz3))
     go_must (have HD2:Hid (Zf (w3.alloc (.cells #[.bool true,.slice va (0+(x.cs.length - k)) vc,.slice none 0 0,.int .i64 x.p] 119)) (fun b=>F b∧b<w.heap.size) bd bn cap rn rv s rs) :=
      HD.out.narrow.below (hh.alloc hh.size _))
     clear ho1 hb1 hh hz3)
  | (at_builtin
     refine wpList_append_lies _ rfl (.tmp 61) (.tmp 65) 120 rfl 0 119 j0 _ 4 64 Tryz.underlying120 hj jz0 jz1 jz2 rfl (by decide) (.slice (some ⟨bn,0,none⟩) s.length cap) s.length _ rfl (by have:=HD2.out.nodes;rw[hlenE] at this;simp only[Nat.zero_add] at this;exact this) ⟨w3.heap.size,0,none⟩ 1 1 [.bool true,.slice va (x.cs.length - k) vc,.slice none 0 0,.int .i64 x.p] rfl rfl (World.news_of_block (heap_alloc_new w3 _)) (by simp[Value.oneCell']) (by decide) (by unfold maxLen;omega) (by omega) (Nat.zero_le _) (w3.heap.size+1) (by simp) ?_
     intro g cap' w4 ho (hg:World.grownBy _ w4 (some bn)) (hgn:some bn=some g∨_) _
     have z0:=HW3.out.1
     have z1:=HW3.out.2
     have hD2:=HD2.out
     simp only[Nat.zero_add] at hD2
     have hd1:=(hg.block bd (by simp only[World.size_alloc];omega) (by simpa using hD2.ne)).trans hD2.doc
     have hcD:w4.cell? ⟨bd,0,none⟩=some (.slice (some ⟨bn,0,none⟩) rn.length cap):=Za hd1 0
     have hfD:=Zd hd1 0
     have hq1:=(hg.block w.heap.size (by simp only[World.size_alloc];omega) (by simp;omega)).trans ((Below.heap_alloc _ _ _ z1).trans HZ3.out)
     have hcr:=HO1.out
     simp only[Nat.zero_add,List.nil_append] at hcr
     have hcb:∀ b,(Value.slice va (x.cs.length - k) vc).ownBlock=some b→w2.heap.size≤b:=fun b e=>(hcr.lt b e).1
     have hcs:(x.cs.drop k).length=x.cs.length - k:=by simp
     have hcv:(ZF x.cs).drop k=ZF (x.cs.drop k):=by simp[ZF]
     have hp5:=hD2.pushed (B:=w.heap.size+1) (x:=⟨true,x.cs.drop k,[],x.p⟩) (r:=⟨true,.slice va (x.cs.length - k) vc,.slice none 0 0,x.p⟩) (by simp only[World.size_alloc];omega) hg (by rw[hlenE];exact ho) (by rcases hgn with e|e;exact .inl (by cases e;rfl);exact .inr (by simpa using e))
      ⟨rfl,rfl,by rw[hcs,← hcv];exact Ji (hcr.alloc _),World.ownsRow_nil _ _ _ _,fun b e=>⟨.inr (by have:=hcb b e;omega),by have:=hcb b e;omega,by have:=hcb b e;omega,fun e2=>by have:=hcb b e;have:=(HD.out.ranges.lt b e2).2;omega⟩,fun b e=>(by cases e)⟩
     rw[hlenE] at hp5 hcD
     have hk0:Zb F w w4:=((Zb.of_below (F:=F) HB3.out).alloc _).trans (Zb.grown hg (fun k e=>by cases e;exact .inl (.inl HD.out.Fn)))
     have hq5:(w4.setCell ⟨bd,0,none⟩ (.slice (some ⟨g,0,none⟩) (s.length+1) cap')).heap[w.heap.size]?=some (.cells #[.int .i64 0,.int .i64 0] 32 (0,0)):=by
      rw[Below.heap_setCell _ _ _ _ (by simp;omega)];exact hq1
     have HP5:=hid hp5
     have HK0:=hid hk0
     have HQ5:=hid hq5
     have CR:=hid (J5 hp5 n k (x.cs.length - k) x (by rw[List.getElem?_append_left hn];exact HX.out) hlen (by omega) (.slice none 0 0) [] (by decide) (World.ownsRow_nil _ _ _ _) HSM.out h6 (by decide))
     clear hd1 hq1 hg ho hgn hp5 hk0 hq5 hD2 hcr hcb hcs hcv)
  | (go_at_call 125
     refine CR.out.mono ?_
     rintro e w5 ⟨rfl,hk5,hr5⟩
     have hz5:=(hk5.block _ (Zc HQ5.out) (fun e=>by rcases e with e|e;exact Nat.lt_irrefl _ e.2;omega)).trans HQ5.out
     have cz5:w5.cell? ⟨w.heap.size,0,none⟩=some (.int .i64 0):=Za hz5 0
     have cz6:w5.cell? ⟨w.heap.size,1,none⟩=some (.int .i64 0):=Za hz5 1
     have fz5:=Zd hz5 0
     have fz6:=Zd hz5 1
     have hs5:=Zc hz5
     have HK5:=hid hk5
     have HR5:=hid hr5
     clear hk5 hr5 hz5))
 refine bodyPost_ret (v:=.tuple #[.int .i64 s.length,Zi 0 0]) (by simp[results,Tryz.results79,go_sem,cz5,cz6,fz5,fz6,hs5]) rfl ?_
 have hk6:Zb F w w5:=(HK0.out.setCell (p:=⟨bd,0,none⟩) (.inl HD.out.Fd) _).trans (HK5.out.mono (fun b _ e=>by rcases e with e|e;exact .inl e.1;exact .inr (by omega)))
 have hk7:Zb (fun b=>b=w.heap.size) w5 ((w5.setCell ⟨w.heap.size,0,none⟩ (.int .i64 0)).setCell ⟨w.heap.size,1,none⟩ (.int .i64 0)):=((Zb.refl (fun b=>b=w.heap.size) w5).setCell (p:=⟨w.heap.size,0,none⟩) (.inl rfl) _).setCell (p:=⟨w.heap.size,1,none⟩) (.inl rfl) _
 obtain⟨bn6,cap6,rn6,rv6,hD6⟩:=HR5.out.keeps hk7 (fun b e e2=>by have:=Zc HQ5.out;rcases e with (e|e)|e <;> omega)
 refine⟨rfl,(hk6.setCell (p:=⟨w.heap.size,0,none⟩) (.inr (Nat.le_refl _)) _).setCell (p:=⟨w.heap.size,1,none⟩) (.inr (Nat.le_refl _)) _,bn6,cap6,rn6,rv6,?_⟩
 have e7:x.cs.take k++[]++x.cs.drop (k+(x.cs.length - k))=x.cs.take k:=by rw[List.drop_of_length_le (by omega)];simp
 rw[e7] at hD6
 refine hD6.wider (fun b e=>?_)
 rcases e with (e|e)|e
 · exact .inl e.1
 · exact .inr (by omega)
 · exact .inr (by have:=Zc HQ5.out;omega)
end
end
section
open Go.RowKit Go.Lib
theorem Zi4 {V:List Nd→Sp→Prop} (hV:Yq V) (s:List Nd) (wf:WF s) (rs:List Sp) (h6:rs.length≤6) (hrs:∀ z∈rs,V s z) (A B:Int):∃ n:Int,Ans (Z7 V) GG ⟨s,rs⟩ 30 79 [.int .i64 A,.int .i64 B] (fun v=>.tuple #[.int .i64 n,v]) (fun v=>.tuple #[.int .i64 n,v]):=by
 have hcap:=wf.cap
 cases hA:isB s A with
 | false =>
   refine⟨0,A,1,⟨s,rs⟩,⟨wf,h6,hrs⟩,?_,?_⟩
   · intro w F bx hg hP
     refine ZaJ hg hP A B (Yi A 1 (by decide)) (fun F' bf h=>?_)
     have h':=h
     obtain⟨bn,cap,pn,h⟩:=h
     exact ZeD h' A B _ (Zc6 h A hA)
   · intro w F bd hR
     have hR':=hR
     obtain⟨bn,cap,rn,rv,hD⟩:=hR
     exact(Zb3 A B A 1 (by decide) (Zew (hD.below (Z1 w)) A B hA)).mono fun e w' ⟨h1,h2⟩=>hR'.unchangedR h2 h1
 | true =>
   obtain⟨h1,h2⟩:=Y2 hA
   obtain⟨n,rfl⟩:∃ n:Nat,A=(n:Int):=⟨A.toNat,by omega⟩
   have hn:n<s.length:=by omega
   obtain⟨x,hx⟩:∃ x,s[n]?=some x:=⟨_,List.getElem?_eq_getElem hn⟩
   have hch:=wf.chars n x hx
   have hl':x.cs.length<lots:=by unfold lots;omega
   cases ht:x.t with
   | false =>
     refine⟨0,n,2,⟨s,rs⟩,⟨wf,h6,hrs⟩,?_,?_⟩
     · intro w F bx hg hP
       refine ZaJ hg hP n B (Yi n 2 (by decide)) (fun F' bf h=>?_)
       have h':=h
       obtain⟨bn,cap,pn,h⟩:=h
       exact ZeD h' n B _ (Zc5 h n x hx ht)
     · intro w F bd hR
       have hR':=hR
       obtain⟨bn,cap,rn,rv,hD⟩:=hR
       exact(Zb3 n B n 2 (by decide) (Zev (hD.below (Z1 w)) n B x hx ht)).mono fun e w' ⟨h1,h2⟩=>hR'.unchangedR h2 h1
   | true =>
     by_cases hB:B<0∨(x.cs.length:Int)<B
     · refine⟨0,n,3,⟨s,rs⟩,⟨wf,h6,hrs⟩,?_,?_⟩
       · intro w F bx hg hP
         exact ZaJ hg hP n B (JO n B) (fun F' bf h=>ZiJ h n B x hx ht hch.2 hl' hB)
       · intro w F bd hR
         have hR':=hR
         obtain⟨bn,cap,rn,rv,hD⟩:=hR
         exact(Zb3 n B n 3 (by decide) (Zeu (hD.below (Z1 w)) n B x hx ht hB)).mono fun e w' ⟨h1,h2⟩=>hR'.unchangedR h2 h1
     · obtain⟨k,rfl⟩:∃ k:Nat,B=(k:Int):=⟨B.toNat,by omega⟩
       have hk:k≤x.cs.length:=by omega
       by_cases h40:s.length<40
       · have wf4:=wf_half wf h40 (k:=k) hx ht
         rcases wf.par n x hx with hp|⟨j,y,hp,hy,hmem⟩
         · refine⟨s.length,0,0,⟨_,rs.map (mvSp (Zl n k ((x.cs.length - k:Nat):Int) 0))⟩,⟨wf4,by simpa using h6,mapV hrs (fun z hz=>hV.splitTop wf hx ht hk hp h40 hz)⟩,?_,?_⟩
           · intro w F bx hg hP
             exact ZdM hg hP (Small.of wf (fun z hz=>hV.place (hrs z hz))) h6 n k (fun F' bf h=>ZiK h n k x hx ht hch.2 hch.1 hk h40 hp)
           · rintro w F bd ⟨bn,cap,rn,rv,hD⟩
             have h:=ZhM (s:=s) hD n k x hx ht hch.1 hk h40 (by omega) (Small.of wf (fun z hz=>hV.place (hrs z hz))) h6
             have e:(⟨true,x.cs.drop k,[],x.p⟩:Nd)=⟨true,x.cs.drop k,[],-1⟩:=by rw[hp]
             rw[e] at h
             exact h.mono fun e w' h=>h
         · obtain⟨j',m,y',hj',hy',hm,hno,hyl⟩:=wf.place hx (by omega)
           obtain rfl:j=j':=by omega
           obtain rfl:y=y':=Option.some.inj (hy.symm.trans hy')
           have hjl:=(List.getElem?_eq_some_iff.1 hy).1
           have hml:m<y.ks.length:=(List.getElem?_eq_some_iff.1 hm).1
           have hyt:y.t=false:=by
            cases h:y.t with
            | false=>rfl
            | true=>have:=(wf.elem j y hy).1 h;rw[this] at hmem;cases hmem
           have hnj:n≠j:=by
            intro e;subst e
            obtain rfl:x=y:=Option.some.inj (hx.symm.trans hy)
            rw[ht] at hyt;cases hyt
           have hx4:((s++[(⟨true,x.cs.drop k,[],-1⟩:Nd)]).set n { x with cs:=x.cs.take k })[j]?=some y:=by rw[List.getElem?_set_ne hnj,List.getElem?_append_left hjl];exact hy
           have hz4:((s++[(⟨true,x.cs.drop k,[],-1⟩:Nd)]).set n { x with cs:=x.cs.take k })[s.length]?=some (⟨true,x.cs.drop k,[],-1⟩:Nd):=by rw[List.getElem?_set_ne (by omega),List.getElem?_append_right (Nat.le_refl _)];simp
           have hI:YI ((s++[(⟨true,x.cs.drop k,[],-1⟩:Nd)]).set n { x with cs:=x.cs.take k }) j s.length y ⟨true,x.cs.drop k,[],-1⟩:=⟨hx4,hz4,hyt,by omega,by show (-1:Int)<0;decide⟩
           obtain⟨h4,B4,u4⟩:=wf4.up
           have hnm:j∉allF ((s++[(⟨true,x.cs.drop k,[],-1⟩:Nd)]).set n { x with cs:=x.cs.take k }) (h4 s.length+1) s.length:=by
            rw[allF,Yp hz4]
            simp
            omega
           have hw:=JV wf4 u4 (d:=j) (by rw[List.length_set,List.length_append];omega) (Nat.lt_succ_self _) hnm
           obtain⟨_,hwf⟩:=Zcg wf4 hI hw (k:=m+1) (by omega)
           refine⟨s.length,0,0,⟨_,rs.map (mvSp (Zp n k s.length (Ze j m 1)))⟩,⟨hwf,by simpa using h6,mapV hrs (fun z hz=>hV.splitIn wf hx ht hk hp hy hm hno hnj h40 hwf hz)⟩,?_,?_⟩
           · intro w F bx hg hP
             exact ZdM hg hP (Small.of wf (fun z hz=>hV.place (hrs z hz))) h6 n k (fun F' bf h=>ZiI h n k x hx ht hch.2 hch.1 hk h40 j m y hp hy hm hno (by unfold lots;omega) hnj)
           · rintro w F bd ⟨bn,cap,rn,rv,hD⟩
             have h:=ZhL (s:=s) hD n k x hx ht hch.1 hk h40 j m y hp hy hm hno (by unfold lots;omega) hnj (Small.of wf (fun z hz=>hV.place (hrs z hz))) (Ze9 wf (fun z hz=>hV.place (hrs z hz)) n k s.length j m) h6
             rw[List.map_map,Zh6 n k (x.cs.length - k) s.length j m (by omega) (by omega)] at h
             rw[← Zh5 (x:=x) (y:=y) (a:=⟨true,x.cs.drop k,[],-1⟩) hn hjl hnj] at h
             exact h.mono fun e w' h=>h
       · refine⟨0,n,7,⟨s,rs⟩,⟨wf,h6,hrs⟩,?_,?_⟩
         · intro w F bx hg hP
           exact ZaJ hg hP n k (Yi n 7 (by decide)) (fun F' bf h=>ZiH h n k x hx ht hch.2 hch.1 hk (by omega))
         · intro w F bd hR
           have hR':=hR
           obtain⟨bn,cap,rn,rv,hD⟩:=hR
           exact(ZhK (s:=s) hD n k x hx ht hk (by omega)).mono fun e w' ⟨h1,h2⟩=>hR'.unchangedR h2 h1
end
section
open Go.RowKit
theorem vnew_ok (V:List Nd→Sp→Prop):NewOk (Z7 V) GG:=mnew_ok
theorem answers3 {V:List Nd→Sp→Prop} (hV:Yq V):Answers3 (Z7 V) GG where
 pd:=pdocV_ok V
 gb:=fun _ _ h hb=>h.below hb
 new:=vnew_ok V
 element:=fun ⟨s,r⟩ ⟨wf,h6,hr⟩=>ZiV hV s wf r h6 hr
 text:=fun ⟨s,r⟩ ⟨wf,h6,hr⟩ S hS=>Zi6 hV s wf r h6 hr S hS
 insert:=fun ⟨s,r⟩ ⟨wf,h6,hr⟩ A B C=>ZiX hV s wf r h6 hr A B C
 remove:=fun ⟨s,r⟩ ⟨wf,h6,hr⟩ A=>Zi0 hV s wf r h6 hr A
 shown:=fun ⟨s,r⟩ ⟨wf,h6,hr⟩ A=>Zi2 hV s wf r h6 hr A
 replace:=fun ⟨s,r⟩ ⟨wf,h6,hr⟩ A B C S hS=>Zi1 hV s wf r h6 hr A B C S hS
 split:=fun ⟨s,r⟩ ⟨wf,h6,hr⟩ A B=>Zi4 hV s wf r h6 hr A B
 range:=fun ⟨s,r⟩ ⟨wf,h6,hr⟩=>ZiY hV s wf r h6 hr
 start:=fun ⟨s,r⟩ ⟨wf,h6,hr⟩ A p0 p1=>Zi5 hV s wf r h6 hr A p0 p1
 finish:=fun ⟨s,r⟩ ⟨wf,h6,hr⟩ A p0 p1=>ZiW hV s wf r h6 hr A p0 p1
 span:=fun ⟨s,r⟩ ⟨wf,h6,hr⟩ A=>Zi3 hV s wf r h6 hr A
end
section
open Go.RowKit
theorem Zdx:∀ (p x y:List Nat),lexN (p++x) (p++y)→lexN x y
 | [],_,_,h=>h
 | _::p,x,y,h=>by
   rcases YL h with h|⟨_,h⟩
   · omega
   · exact Zdx p x y h
theorem spIs_le {s:List Nd} (wf:WF s) {a b d:Nat} (h:SpIs s ⟨a,b,a,d⟩):b≤d:=by
 obtain⟨n,k,n2,k2,t,l,l2,e,_,_,ht,w1,w2,hle⟩:=h
 simp only[Sp.mk.injEq,Int.natCast_inj] at e
 obtain⟨rfl,rfl,rfl,rfl⟩:=e
 obtain rfl:=w1.only wf ht.2 w2
 rcases hle with h|h
 · unfold pw at h
   have:=List.append_cancel_left h
   simp at this
   omega
 · have h1:=Zdx _ _ _ h
   rcases YL h1 with h|⟨_,h⟩
   · omega
   · exact(Xw h).elim
theorem set_self {α:Type} {l:List α} {r:Nat} {v:α} (h:l[r]?=some v):l.set r v=l:=by
 apply List.ext_getElem?
 intro i
 rw[List.getElem?_set]
 split
 · next h1 =>
   subst h1
   have:=(List.getElem?_eq_some_iff.1 h).1
   rw[if_pos this,h]
 · rfl
theorem Zfr {s:List Nd} (wf:WF s) {B a b c d t:Nat} (ht:t < s.length):(XN s B a b c d t).length≤50:=by
 have h1:=JZ s (plF s (B+1) t) a b c d (allF s (B+1) t)
 have h2:=Yr wf (B+1) t ht
 have h3:∀ n o e,(Ye s n o e).length≤1:=fun n o e=>by unfold Ye;split <;> simp
 have h4:=h3 a b (csOf s a).length
 have h5:=h3 c 0 d
 unfold XN
 simp only[List.length_append,List.length_map]
 omega
theorem kid_one {s:List Nd} (wf:WF s) {p m m' i j:Nat} {y yj x:Nd} (hy:s[p]?=some y) (hm':y.ks[m']?=some i) (hx:s[i]?=some x) (hj:x.p=(j:Int)) (hyj:s[j]?=some yj) (hm:yj.ks[m]?=some i) (hno:i∉yj.ks.take m):j=p∧m≤m':=by
 obtain⟨x2,hx2,hp2⟩:=wf.kid p y hy i (List.mem_of_getElem? hm')
 rw[hx] at hx2
 cases hx2
 have e:j=p:=by omega
 subst e
 rw[hy] at hyj
 cases hyj
 refine⟨rfl,?_⟩
 rcases Nat.lt_or_ge m' m with h|h
 · exact absurd (ZaG hm' h) hno
 · exact h
theorem Zc8 {s:List Nd} (wf:WF s) {L:List (Nat × Nat)} {ns:List Nat} {a b c d p k:Nat} {y:Nd} (hy:s[p]?=some y) (hk:∀ m n,y.ks[m]?=some n→cov L a b c d p m=true→k≤m):∀ i∈ZG s L a b c d ns,i∉y.ks.take k:=by
 intro i hi hm
 obtain⟨x,yj,j,m,hx,hj,hyj,hmm,hno,hcov⟩:=Zdt wf hi
 obtain⟨m',hm',he⟩:=List.getElem_of_mem hm
 rw[List.getElem_take] at he
 have hlt:m' < k∧m' < y.ks.length:=by rw[List.length_take] at hm';omega
 have hm2:y.ks[m']?=some i:=by rw[List.getElem?_eq_getElem hlt.2,he]
 obtain⟨rfl,hle⟩:=kid_one wf hy hm2 hx hj hyj hmm hno
 rw[hy] at hyj
 cases hyj
 have:=hk m i hmm hcov
 omega
end
section
open Go.RowKit
section
variable {s:List Nd} {h:Nat→Nat} {B:Nat} {F:Nat→Prop} {bf bn cap:Nat} {pn:List PN} {w:World}
theorem Zex (wf:WF s) (u:Up s h B) (hD:Zh w F bf bn cap pn s) (a b c d:Nat) (ha:a < s.length) (hc:c∈allF s (B+1) a) :
 Calls Tryz.prog 162 #[ptr bf,spV ⟨a,b,c,d⟩] w fun e w'=>e=.returned (.agg #[.int .i64 (a:Int),.int .i64 (b:Int)])∧Below w.heap.size w w':=by
 have hH:=u.le a
 have CH:=hid (fun W (hB:Below w.heap.size w W)=>JU wf u (hD.below hB) (B+1) a c ha (by omega))
 rw[decide_eq_true hc] at CH
 have HB0:Hid (Below w.heap.size w ((w.alloc (.cells #[.int .i64 (a:Int),.int .i64 (b:Int),.int .i64 (c:Int),.int .i64 (d:Int)] 79)).alloc (.cells #[.int .i64 0,.int .i64 0] 37))):=((Below.refl _ w).alloc (Nat.le_refl _) _).alloc (by simp) _
 have HS0:=hid ((Below.heap_alloc (w.alloc (.cells #[.int .i64 (a:Int),.int .i64 (b:Int),.int .i64 (c:Int),.int .i64 (d:Int)] 79)) (.cells #[.int .i64 0,.int .i64 0] 37) w.heap.size (by simp)).trans (heap_alloc_new w (.cells #[.int .i64 (a:Int),.int .i64 (b:Int),.int .i64 (c:Int),.int .i64 (d:Int)] 79)))
 have HR0:Hid (((w.alloc (.cells #[.int .i64 (a:Int),.int .i64 (b:Int),.int .i64 (c:Int),.int .i64 (d:Int)] 79)).alloc (.cells #[.int .i64 0,.int .i64 0] 37)).heap[w.heap.size+1]?=some (.cells #[.int .i64 0,.int .i64 0] 37 (0,0))):=by
  have:=heap_alloc_new (w.alloc (.cells #[.int .i64 (a:Int),.int .i64 (b:Int),.int .i64 (c:Int),.int .i64 (d:Int)] 79)) (.cells #[.int .i64 0,.int .i64 0] 37)
  rwa [World.size_alloc] at this
 clear hD wf u hc
 go_enter Tryz.func162,Tryz.ntmps162
 go_wp2_with (
  go_at_call 173
  refine(CH.out _ HB0.out).mono ?_
  rintro e w1 ⟨rfl,hb1⟩
  have hs:=(hb1.block _ (Zc HS0.out)).trans HS0.out
  have c0:=Za hs 0
  have c1:=Za hs 1
  have c2:=Za hs 2
  have c3:=Za hs 3
  have hr:=(hb1.block _ (Zc HR0.out)).trans HR0.out
  have r0:=Za hr 0
  have r1:=Za hr 1
  have rf0:=Zd hr 0
  have rf1:=Zd hr 1
  have hrl:=Zc hr
  have HB1:=hid (HB0.out.trans (hb1.mono HB0.out.size))
  clear hb1 hs hr)
 refine bodyPost_ret (v:=.agg #[.int .i64 (a:Int),.int .i64 (b:Int)]) (by simp[results,Tryz.results162,go_sem, *]) rfl ?_
 refine⟨rfl,?_⟩
 have hB:=HB1.out
 have hz:=hB.size
 go_grown
def JoinInv (s:List Nd) (a q:Nat) (w:World) (t:Value) (wr:World):Prop :=
 ∃ (r n:Nat),r≤q∧climb s r a=(n:Int)∧n<s.length∧t=.int .i64 (n:Int)∧Below w.heap.size w wr
theorem ZiB (wf:WF s) (u:Up s h B) (hD:Zh w F bf bn cap pn s) (a b c d:Nat) (ha:a < s.length) (hca:c∉allF s (B+1) a) {q n p m:Nat} {x y:Nd} (hJ:Zac s (B+1) a c q n p m x y) :
 Calls Tryz.prog 162 #[ptr bf,spV ⟨a,b,c,d⟩] w fun e w'=>e=.returned (.agg #[.int .i64 (p:Int),.int .i64 ((m:Int)+1)])∧Below w.heap.size w w':=by
 have hcap:=wf.cap
 have CH:=hid (fun (k:Nat) (hk:k<s.length) W (hB:Below w.heap.size w W)=>JU wf u (hD.below hB) (B+1) k c hk (by have:=u.le k;omega))
 have CH0:=hid (fun W (hB:Below w.heap.size w W)=>CH.out a ha W hB)
 rw[decide_eq_false hca] at CH0
 have hyl:=XT wf hJ.hy
 have hml:=(List.getElem?_eq_some_iff.1 hJ.hm).1
 have CA:=hid (fun W (hB:Below w.heap.size w W)=>Zca (hD.below hB) n p m x y hJ.hx hJ.hp hJ.hy hJ.hm hJ.hno (by unfold lots;omega) (by unfold lots;omega))
 have hplt:p<s.length:=(List.getElem?_eq_some_iff.1 hJ.hy).1
 have HB0:Hid (Below w.heap.size w ((w.alloc (.cells #[.int .i64 (a:Int),.int .i64 (b:Int),.int .i64 (c:Int),.int .i64 (d:Int)] 79)).alloc (.cells #[.int .i64 0,.int .i64 0] 37))):=((Below.refl _ w).alloc (Nat.le_refl _) _).alloc (by simp) _
 have HS0:=hid ((Below.heap_alloc (w.alloc (.cells #[.int .i64 (a:Int),.int .i64 (b:Int),.int .i64 (c:Int),.int .i64 (d:Int)] 79)) (.cells #[.int .i64 0,.int .i64 0] 37) w.heap.size (by simp)).trans (heap_alloc_new w (.cells #[.int .i64 (a:Int),.int .i64 (b:Int),.int .i64 (c:Int),.int .i64 (d:Int)] 79)))
 have HR0:Hid (((w.alloc (.cells #[.int .i64 (a:Int),.int .i64 (b:Int),.int .i64 (c:Int),.int .i64 (d:Int)] 79)).alloc (.cells #[.int .i64 0,.int .i64 0] 37)).heap[w.heap.size+1]?=some (.cells #[.int .i64 0,.int .i64 0] 37 (0,0))):=by
  have:=heap_alloc_new (w.alloc (.cells #[.int .i64 (a:Int),.int .i64 (b:Int),.int .i64 (c:Int),.int .i64 (d:Int)] 79)) (.cells #[.int .i64 0,.int .i64 0] 37)
  rwa [World.size_alloc] at this
 have HD:=hid hD
 have HJ:=hid hJ
 have HU:=hid u
 clear hD hca hJ u
 go_enter Tryz.func162,Tryz.ntmps162
 go_wp2_with (
  go_at_call 173
  refine(CH0.out _ HB0.out).mono ?_
  clear CH0
  rintro e w1 ⟨rfl,hb1⟩
  have hs:=(hb1.block _ (Zc HS0.out)).trans HS0.out
  have c0:=Za hs 0
  have c2:=Za hs 2
  have HS1:=hid hs
  have HR1:=hid ((hb1.block _ (Zc HR0.out)).trans HR0.out)
  have HB1:=hid (HB0.out.trans (hb1.mono HB0.out.size))
  clear hb1 hs)
 go_loopw [5] (JoinInv s a q w1) (fun t _=>Xg h B (Go.RowKit.intOf t))
 case atStart=>exact⟨0,a,Nat.zero_le _,rfl,ha,rfl,Below.refl _ _⟩
 case round =>
  obtain⟨r,k,hr,hk,hkl,rfl,hbr⟩:=hrel
  have hbw:Below w.heap.size w wr:=HB1.out.trans (hbr.mono HB1.out.size)
  have hs:=(hbr.block _ (Zc HS1.out)).trans HS1.out
  have c2:=Za hs 2
  obtain⟨z,hz⟩:∃ z,s[k]?=some z:=⟨_,List.getElem?_eq_getElem hkl⟩
  have hDr:=HD.out.below hbw
  have n0:=hDr.nodesCell
  have hnl:=hDr.lt
  obtain⟨rr,hrr,ho,d0,d1,d2,d3⟩:=hDr.look hz
  have hkI:(k:Int)<(s.length:Int):=by omega
  by_cases hrq:r<q
  · obtain⟨k2,hk2,hk2l,hk2n⟩:=HJ.out.up (r+1) hrq
    have hzp:z.p=(k2:Int):=by
     have:=Ya hk
     rw[hk2] at this
     simp only[Zw,hz] at this
     exact this.symm
    rw[hzp] at d0
    have C1:=hid (fun W hB=>CH.out k2 hk2l W hB)
    rw[decide_eq_false hk2n] at C1
    have hms:=Jq HU.out hz
    rw[hzp] at hms
    have H:=hid (And.intro hbw (And.intro hbr (And.intro hk2 hms)))
    have HDR:=hid hDr
    have HZ:=hid hz
    have KEEP:=hid (fun W (hB:Below wr.heap.size wr W)=>And.intro ((hB.cell (p:=⟨bf,0,none⟩) hnl.1).trans n0) (And.intro ((hB.cell (p:=⟨bn,k*4,none⟩) hnl.2).trans d0) ((hB.cell (p:=⟨w.heap.size,2,none⟩) (Zc hs)).trans c2)))
    clear hDr d1 d2 d3 hrr ho hz hzp hk hk2 hk2n hbw hbr hs hms
    go_wp2
    go_region_held3 (fun w'=>w'.cell? ⟨bf,0,none⟩=some (.slice (some ⟨bn,0,none⟩) s.length cap)∧w'.cell? ⟨bn,k*4,none⟩=some (.int .i64 (k2:Int))∧w'.cell? ⟨w.heap.size,2,none⟩=some (.int .i64 (c:Int))) (first|exact KP2.out|go_keep) ((
     go_at_call 173
     refine(C1.out _ ?_).mono ?_
     · first | exact Zj H.out.1 _|exact H.out.1.drew|exact H.out.1
     clear C1
     rintro e w2 ⟨rfl,hb2⟩
     have hB2:Below wr.heap.size wr w2:=⟨hb2.os,hb2.tape,hb2.output,hb2.size,hb2.block⟩
     have KP2:=hid (KEEP.out w2 hB2)
     have HB2:=hid hB2
     clear hb2 hB2))
    all_goals
     obtain⟨m0,m1,m2⟩:=KP2.out
     go_wp2
     go_roundw
     case rel =>
      obtain⟨hbw,hbr,hk2,hms⟩:=H.out
      exact⟨r+1,k2,by omega,hk2,hk2l,rfl,hbr.trans (HB2.out.mono hbr.size)⟩
     case measure=>exact H.out.2.2.2
  · obtain rfl:r=q:=by omega
    have e1:=HJ.out.last
    rw[hk] at e1
    obtain rfl:k=n:=by omega
    have hzx:z=x:=by have:=HJ.out.hx;rw[hz] at this;cases this;rfl
    subst hzx
    have hzp:=HJ.out.hp
    rw[hzp] at d0
    have C1:=hid (fun W hB=>CH.out p hplt W hB)
    rw[decide_eq_true HJ.out.hold] at C1
    have KEEP:=hid (fun W (hB:Below wr.heap.size wr W)=>And.intro ((hB.cell (p:=⟨bf,0,none⟩) hnl.1).trans n0) (And.intro ((hB.cell (p:=⟨bn,k*4,none⟩) hnl.2).trans d0) ((hB.cell (p:=⟨w.heap.size,2,none⟩) (Zc hs)).trans c2)))
    have H:=hid (And.intro hbw hbr)
    have hR2:=hid ((hbr.block _ (Zc HR1.out)).trans HR1.out)
    clear hDr d1 d2 d3 hrr ho hz hzp hk hbw hbr hs e1
    go_wp2
    go_region_held3 (fun w'=>w'.cell? ⟨bf,0,none⟩=some (.slice (some ⟨bn,0,none⟩) s.length cap)∧w'.cell? ⟨bn,k*4,none⟩=some (.int .i64 (p:Int))∧w'.cell? ⟨w.heap.size,2,none⟩=some (.int .i64 (c:Int))) (first|exact KP2.out|go_keep) ((
     go_at_call 173
     refine(C1.out _ ?_).mono ?_
     · first | exact Zj H.out.1 _|exact H.out.1.drew|exact H.out.1
     clear C1
     rintro e w2 ⟨rfl,hb2⟩
     have hB2:Below wr.heap.size wr w2:=⟨hb2.os,hb2.tape,hb2.output,hb2.size,hb2.block⟩
     have KP2:=hid (KEEP.out w2 hB2)
     have HB2:=hid hB2
     clear hb2 hB2))
    all_goals
     obtain⟨m0,m1,m2⟩:=KP2.out
     have HW2:=hid (H.out.1.trans (HB2.out.mono H.out.1.size))
     go_wp2_with (
      go_at_call 149
      refine(CA.out _ ?_).mono ?_
      · first | exact Zj HW2.out _|exact HW2.out.drew|exact HW2.out
      clear CA
      rintro e w3 ⟨rfl,hb3⟩
      have hr3:=(hb3.block _ (Nat.lt_of_lt_of_le (Zc hR2.out) HB2.out.size)).trans ((HB2.out.block _ (Zc hR2.out)).trans hR2.out)
      have r0:=Za hr3 0
      have r1:=Za hr3 1
      have rf0:=Zd hr3 0
      have rf1:=Zd hr3 1
      have hrl:=Zc hr3
      have HB3:=hid (show Below w.heap.size w w3 from HW2.out.trans (hb3.mono HW2.out.size))
      clear hb3 hr3)
     refine bodyPost_ret (v:=.agg #[.int .i64 (p:Int),.int .i64 ((m:Int)+1)]) (by simp[results,Tryz.results162,go_sem, *]) rfl ?_
     refine⟨rfl,?_⟩
     have hB:=HB3.out
     have hz:=hB.size
     go_grown
end
end
end Go.Proofs.YtabogkonklplcaaGreatDoor
