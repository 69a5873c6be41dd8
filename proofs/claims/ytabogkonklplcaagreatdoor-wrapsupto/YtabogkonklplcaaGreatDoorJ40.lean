import Derived.Test.YtabogkonklplcaaGreatDoorJ29
import Derived.Test.YtabogkonklplcaaGreatDoorJ27
import Derived.Test.YtabogkonklplcaaGreatDoorJ25
import Derived.Test.YtabogkonklplcaaGreatDoorJ13
import Derived.Test.YtabogkonklplcaaGreatDoorJ23
import Derived.Test.YtabogkonklplcaaGreatDoorJ15
import Derived.Test.YtabogkonklplcaaGreatDoorJ11
namespace Go.Proofs.YtabogkonklplcaaGreatDoor
set_option linter.unusedSimpArgs false
set_option linter.unusedVariables false
set_option maxRecDepth 20000
set_option maxHeartbeats 8000000
section
open Go.RowKit Go.Lib
section
variable {w:World} {F:Nat→Prop} {bf bn cap:Nat} {pn:List PN} {s:List Nd}
theorem ZdX (hD:Zh w F bf bn cap pn s) (n k:Int) (h:isB s n=false):Calls Tryz.prog 98 #[ptr bf,.agg #[.int .i64 n,.int .i64 k]] w fun e w'=>e=.returned (ZO n 1)∧Below w.heap.size w w':=by
 have C:=hid (fun w1 (hb:Below w.heap.size w w1)=>Jd (hD.below hb) n h)
 clear hD h
 go_enter Tryz.func98,Tryz.ntmps98
 go_wp2_with (go_at_call 87;refine(C.out _ (by first|exact Below.refl _ _|go_grown)).mono ?_;rintro e w1 ⟨rfl,rfl⟩)
 go_ret
 exact⟨rfl,by go_grown⟩
theorem ZdZ (hD:Zh w F bf bn cap pn s) (n:Nat) (k:Int) (x:Nd) (hx:s[n]?=some x) (ht:x.t=true) (hch:∀ d∈x.cs,IsCh d) (hl:x.cs.length < lots) (ho:k < 0∨(x.cs.length:Int) < k) :
 Calls Tryz.prog 98 #[ptr bf,.agg #[.int .i64 n,.int .i64 k]] w fun e w'=>e=.returned (.iface 145 (.agg #[.int .i64 n,outV k]))∧Below w.heap.size w w':=by
 have hi:n<s.length:=(List.getElem?_eq_some_iff.1 hx).1
 have hP:Below w.heap.size w (w.alloc (.cells #[.int .i64 n,.int .i64 k] 37)):=(Below.refl _ w).alloc (Nat.le_refl _) _
 have C:=hid (Z4 (hD.below hP) n (ZC (by omega)))
 have C2:=hid (fun w1=>JQ x.cs hch hl k ho w1)
 have h0:=hD.nodesCell
 have hlt:=hD.lt
 obtain⟨r,hr,ho',c0,c1,c2,c3⟩:=hD.look hx
 rw[ht] at c1
 clear hD c0 c2 hr ho' hx hch
 go_enter Tryz.func98,Tryz.ntmps98
 go_wp2_with (go_at_call 87;refine C.out.mono ?_;rintro e w1 ⟨rfl,hw1⟩;replace hw1:=hw1.symm;subst hw1)
 go_region
 go_wp2
 go_region_held3 (fun w'=>w'.cell? ⟨bf,0,none⟩=some (.slice (some ⟨bn,0,none⟩) s.length cap)∧w'.cell? ⟨w.heap.size,0,none⟩=some (.int .i64 n)∧w'.cell? ⟨w.heap.size,1,none⟩=some (.int .i64 k)∧w'.cell? ⟨bn,n*4+3,none⟩=some (.string (catB x.cs))) (first|exact KEEP.out|go_keep) ((
  go_at_call 102;refine(C2.out _).mono ?_;rintro e w2 ⟨rfl,hb2⟩
  have hq:=(hb2.block w.heap.size (by simp)).trans (heap_alloc_new w (.cells #[.int .i64 n,.int .i64 k] 37))
  have q0:w2.cell? ⟨w.heap.size,0,none⟩=some (.int .i64 n):=Za hq 0
  have q1:w2.cell? ⟨w.heap.size,1,none⟩=some (.int .i64 k):=Za hq 1
  have hB2:Below w.heap.size w w2:=hP.trans ⟨hb2.os,hb2.tape,hb2.output,Nat.le_trans (by simp) hb2.size,fun k hk=>hb2.block k (by simp at hk ⊢;omega)⟩
  have KEEP:=hid (And.intro ((hB2.cell (p:=⟨bf,0,none⟩) hlt.1).trans h0) (And.intro q0 (And.intro q1 ((hB2.cell (p:=⟨bn,n*4+3,none⟩) hlt.2).trans c3))))
  clear hq hb2))
 go_wp2
 go_ret
 exact⟨rfl,hB2⟩
theorem ZdW (hD:Zh w F bf bn cap pn s) (n:Nat) (k:Int) (x:Nd) (hx:s[n]?=some x) (ht:x.t=false) (ho:k < 0∨(x.ks.length:Int) < k) :
 Calls Tryz.prog 98 #[ptr bf,.agg #[.int .i64 n,.int .i64 k]] w fun e w'=>e=.returned (ZO n 3)∧Below w.heap.size w w':=by
 have hi:n<s.length:=(List.getElem?_eq_some_iff.1 hx).1
 have hP:Below w.heap.size w (w.alloc (.cells #[.int .i64 n,.int .i64 k] 37)):=(Below.refl _ w).alloc (Nat.le_refl _) _
 have C:=hid (Z4 (hD.below hP) n (ZC (by omega)))
 have h0:=hD.nodesCell
 have hlt:=hD.lt
 obtain⟨r,hr,ho',c0,c1,c2,c3⟩:=hD.look hx
 rw[ht] at c1
 obtain⟨ka,kc,hkv⟩:=Zo ho'.kids
 rw[hkv] at c2
 clear hD c0 c3 hr ho' hx hkv
 by_cases hneg:k<0
 · have hd:decide (k<0)=true:=decide_eq_true hneg
   go_enter Tryz.func98,Tryz.ntmps98
   go_wp2_with (go_at_call 87;refine C.out.mono ?_;rintro e w1 ⟨rfl,hw1⟩;replace hw1:=hw1.symm;subst hw1)
   go_region
   go_wp2
   go_region
   go_wp2
   go_ret
   exact⟨rfl,by go_grown⟩
 · have hd:decide (k<0)=false:=decide_eq_false hneg
   have hd2:decide ((x.ks.length:Int)<k)=true:=decide_eq_true (by omega)
   go_enter Tryz.func98,Tryz.ntmps98
   go_wp2_with (go_at_call 87;refine C.out.mono ?_;rintro e w1 ⟨rfl,hw1⟩;replace hw1:=hw1.symm;subst hw1)
   go_region
   go_wp2
   go_region
   go_wp2
   go_ret
   exact⟨rfl,by go_grown⟩
theorem place_ok (hD:Zh w F bf bn cap pn s) (n k:Nat) (x:Nd) (hx:s[n]?=some x) (hch:∀ d∈x.cs,IsCh d) (hl:x.cs.length < lots) (ho:k≤ZI x) :
 Calls Tryz.prog 98 #[ptr bf,.agg #[.int .i64 n,.int .i64 (k:Int)]] w fun e w'=>e=.returned .nilIface∧Below w.heap.size w w':=by
 have hi:n<s.length:=(List.getElem?_eq_some_iff.1 hx).1
 have hP:Below w.heap.size w (w.alloc (.cells #[.int .i64 n,.int .i64 (k:Int)] 37)):=(Below.refl _ w).alloc (Nat.le_refl _) _
 have C:=hid (Z4 (hD.below hP) n (ZC (by omega)))
 have h0:=hD.nodesCell
 have hlt:=hD.lt
 obtain⟨r,hr,ho',c0,c1,c2,c3⟩:=hD.look hx
 obtain⟨ka,kc,hkv⟩:=Zo ho'.kids
 rw[hkv] at c2
 cases ht:x.t with
 | true =>
   rw[ht] at c1
   rw[Yl ht] at ho
   have C2:=hid (fun w1=>YQ x.cs hch hl k ho w1)
   clear hD c0 c2 hr ho' hx hch hkv
   go_enter Tryz.func98,Tryz.ntmps98
   go_wp2_with (go_at_call 87;refine C.out.mono ?_;rintro e w1 ⟨rfl,hw1⟩;replace hw1:=hw1.symm;subst hw1)
   go_region
   go_wp2
   go_region_held3 (fun w'=>w'.cell? ⟨bf,0,none⟩=some (.slice (some ⟨bn,0,none⟩) s.length cap)∧w'.cell? ⟨w.heap.size,0,none⟩=some (.int .i64 n)∧w'.cell? ⟨w.heap.size,1,none⟩=some (.int .i64 k)∧w'.cell? ⟨bn,n*4+3,none⟩=some (.string (catB x.cs))) (first|exact KEEP.out|go_keep) ((
    go_at_call 102;refine(C2.out _).mono ?_;rintro e w2 ⟨rfl,hb2⟩
    have hq:=(hb2.block w.heap.size (by simp)).trans (heap_alloc_new w (.cells #[.int .i64 n,.int .i64 k] 37))
    have q0:w2.cell? ⟨w.heap.size,0,none⟩=some (.int .i64 n):=Za hq 0
    have q1:w2.cell? ⟨w.heap.size,1,none⟩=some (.int .i64 k):=Za hq 1
    have hB2:Below w.heap.size w w2:=hP.trans ⟨hb2.os,hb2.tape,hb2.output,Nat.le_trans (by simp) hb2.size,fun k hk=>hb2.block k (by simp at hk ⊢;omega)⟩
    have KEEP:=hid (And.intro ((hB2.cell (p:=⟨bf,0,none⟩) hlt.1).trans h0) (And.intro q0 (And.intro q1 ((hB2.cell (p:=⟨bn,n*4+3,none⟩) hlt.2).trans c3))))
    clear hq hb2))
   go_wp2
   go_ret
   exact⟨rfl,hB2⟩
 | false =>
   rw[ht] at c1
   rw[Yg ht] at ho
   have hd:decide ((k:Int)<0)=false:=decide_eq_false (by omega)
   have hd2:decide ((x.ks.length:Int)<(k:Int))=false:=decide_eq_false (by omega)
   clear hD c0 c3 hr ho' hx hch hkv
   go_enter Tryz.func98,Tryz.ntmps98
   go_wp2_with (go_at_call 87;refine C.out.mono ?_;rintro e w1 ⟨rfl,hw1⟩;replace hw1:=hw1.symm;subst hw1)
   go_region
   go_wp2
   go_region
   go_wp2
   go_ret
   exact⟨rfl,by go_grown⟩
theorem ttop_any (wf:WF s) (hD:Zh w F bf bn cap pn s) (n:Nat) (hn:n < s.length) :
 Calls Tryz.prog 99 #[ptr bf,.int .i64 n] w (Zcm s n w):=by
 obtain⟨h,B,u⟩:=wf.up
 have h0:=hD.nodesCell
 have HD:=hid hD
 have HW:=hid wf
 have HU:=hid u
 clear hD wf u
 go_enter Tryz.func99,Tryz.ntmps99
 go_wp2
 go_loopw [1] (fun a wr=>TopInv s n w a wr) (fun a _=>Xg h B (intOf a))
 case atStart=>exact⟨rfl,n,0,rfl,hn,rfl⟩
 case round =>
  obtain⟨rfl,c,m,rfl,hc,hm⟩:=hrel
  obtain⟨x,hx⟩:∃ x,s[c]?=some x:=⟨_,List.getElem?_eq_getElem hc⟩
  obtain⟨r,hr,ho,c0,c1,c2,c3⟩:=HD.out.look hx
  have HM:=hid hm
  have HX:=hid hx
  clear c1 c2 c3 hr ho hm hx
  by_cases hp:0≤x.p
  · have hup:=Jq HU.out HX.out
    have hpar:=(HU.out.par c x HX.out hp).1
    have HUP:=hid hup
    have hp1:(x.p == -1)=false:=by simp;omega
    clear hup
    go_wp2
    go_roundw
    case rel =>
     obtain⟨q,hq⟩:=Int.eq_ofNat_of_zero_le hp
     refine⟨rfl,q,m+1,by rw[hq],by omega,?_⟩
     rw[Ya HM.out]
     simp[Zw,HX.out,hq]
    case measure=>exact HUP.out
  · have hp1:x.p = -1:=by
     rcases HW.out.par c x HX.out with e|⟨q,y,e,_⟩
     · exact e
     · omega
    rw[hp1] at c0
    go_wp2
    go_ret
    exact⟨⟨c,rfl,⟨m,HM.out⟩,x,HX.out,hp1⟩,rfl⟩
end
end
section
open Go.RowKit Go.Lib
def CmpInv (l m:List Nat) (w:World) (a:Value) (wr:World):Prop:=wr=w∧∃ i:Nat,a=.int .i64 (i:Int)∧i≤l.length∧i≤m.length∧lexC l m=lexC (l.drop i) (m.drop i)
theorem lex_over {l:List Nat} {i:Nat} (h:i < l.length):lexC (l.drop i) []=1:=by
 rw[List.drop_eq_getElem_cons h];rfl
theorem lex_at {l m:List Nat} {i:Nat} (h:i < l.length) (h':i < m.length):lexC (l.drop i) (m.drop i)=if Lib.compareInt (l[i]:Int) (m[i]:Int)=0 then lexC (l.drop (i+1)) (m.drop (i+1)) else Lib.compareInt (l[i]:Int) (m[i]:Int):=by
 rw[List.drop_eq_getElem_cons h,List.drop_eq_getElem_cons h']
 generalize l.drop (i+1)=A
 generalize m.drop (i+1)=B
 generalize l[i]=a
 generalize m[i]=b
 have e:lexC (a::A) (b::B)=if a<b then -1 else if b<a then 1 else lexC A B:=rfl
 rw[e]
 by_cases h1:a<b
 · have hc:Lib.compareInt (a:Int) (b:Int) = -1:=by unfold Lib.compareInt;rw[if_pos (by omega)]
   rw[hc,if_pos h1,if_neg (by decide)]
 · by_cases h2:b<a
   · have hc:Lib.compareInt (a:Int) (b:Int)=1:=by unfold Lib.compareInt;rw[if_neg (by omega),if_pos (by omega)]
     rw[hc,if_neg h1,if_pos h2,if_neg (by decide)]
   · have hc:Lib.compareInt (a:Int) (b:Int)=0:=by unfold Lib.compareInt;rw[if_neg (by omega),if_neg (by omega)]
     rw[hc,if_neg h1,if_neg h2,if_pos rfl]
theorem lex_done {l m:List Nat} (h:l.length≤m.length):lexC (l.drop l.length) (m.drop l.length)=if l.length < m.length then -1 else 0:=by
 rw[List.drop_length]
 by_cases hl:l.length<m.length
 · rw[if_pos hl,List.drop_eq_getElem_cons hl];rfl
 · rw[if_neg hl,List.drop_of_length_le (by omega)];rfl
theorem scmp_any (l m:List Nat) (g1 c1 g2 c2:Nat) (w:World) (h1:∀ (j x:Nat),l[j]?=some x→w.cell? ⟨g1,j,none⟩=some (.int .i64 x)) (h2:∀ (j x:Nat),m[j]?=some x→w.cell? ⟨g2,j,none⟩=some (.int .i64 x)) (hl:l.length < lots) (hm:m.length < lots) :
 Calls Tryz.prog 152 #[.slice (some ⟨g1,0,none⟩) l.length c1,.slice (some ⟨g2,0,none⟩) m.length c2] w fun e w'=>e=.returned (.int .i64 (lexC l m))∧w'=w:=by
 have H1:=hid h1
 have H2:=hid h2
 unfold lots at hl hm
 clear h1 h2
 go_enter Tryz.func152,Tryz.ntmps152
 go_wp2
 go_loopw [11] (fun a wr=>CmpInv l m w a wr) (fun a _=>l.length - (intOf a).toNat)
 case atStart=>exact⟨rfl,0,rfl,Nat.zero_le _,Nat.zero_le _,rfl⟩
 case round =>
  obtain⟨rfl,i,rfl,hi,hi2,he⟩:=hrel
  have HE:=hid he
  clear he
  by_cases hlt:i<l.length
  · have a1:=H1.out i l[i] (List.getElem?_eq_getElem hlt)
    have d1:decide ((i:Int)<(l.length:Int))=true:=decide_eq_true (by omega)
    by_cases hm2:i<m.length
    · have a2:=H2.out i m[i] (List.getElem?_eq_getElem hm2)
      have d2:decide ((m.length:Int)≤(i:Int))=false:=decide_eq_false (by omega)
      have LA:=hid (lex_at hlt hm2)
      have C:=hid (Tryz.cmp_Compare_int (l[i]:Int) (m[i]:Int) wr)
      obtain⟨c,hc⟩:∃ c,Lib.compareInt (l[i]:Int) (m[i]:Int)=c:=⟨_,rfl⟩
      rw[hc] at C LA
      clear hc
      generalize l[i]=lv at *
      generalize m[i]=mv at *
      by_cases h0:c=0
      · subst h0
        go_wp2_with (go_at_call 180;refine C.out.mono ?_;rintro e w1 ⟨rfl,hw1⟩;replace hw1:=hw1.symm;subst hw1)
        go_roundw
        case rel =>
         refine⟨rfl,i+1,by go_num,hlt,hm2,?_⟩
         rw[HE.out,LA.out];simp
        case measure =>
         show l.length - ((i:Int)+1).toNat<l.length - ((i:Int)).toNat
         omega
      · have h0':(c == 0)=false:=by simpa using h0
        go_wp2_with (go_at_call 180;refine C.out.mono ?_;rintro e w1 ⟨rfl,hw1⟩;replace hw1:=hw1.symm;subst hw1)
        go_ret
        refine⟨?_,rfl⟩
        rw[HE.out,LA.out,if_neg h0];rfl
    · have d2:decide ((m.length:Int)≤(i:Int))=true:=decide_eq_true (by omega)
      go_wp2
      go_ret
      refine⟨?_,rfl⟩
      have hd:m.drop i=[]:=List.drop_of_length_le (by omega)
      rw[HE.out,hd,lex_over hlt];rfl
  · obtain rfl:i=l.length:=by omega
    have LD:=hid (lex_done hi2)
    by_cases hlm:l.length<m.length
    · have d3:decide ((l.length:Int)<(m.length:Int))=true:=decide_eq_true (by omega)
      go_wp2
      go_ret
      refine⟨?_,rfl⟩
      rw[HE.out,LD.out,if_pos hlm];rfl
    · have d3:decide ((l.length:Int)<(m.length:Int))=false:=decide_eq_false (by omega)
      go_wp2
      go_ret
      refine⟨?_,rfl⟩
      rw[HE.out,LD.out,if_neg hlm];rfl
end
section
open Go.RowKit Go.Lib
theorem JE (w:World) (q:Nat):Below w.heap.size w (w.drewN q):=⟨rfl,rfl,rfl,Nat.le_refl _,fun _ _=>rfl⟩
theorem flat_len {f:Nat→List Nat} {ks:List Nat} {c:Nat} (h:c∈ks):(f c).length≤(ks.flatMap f).length:=by
 induction ks with
 | nil=>cases h
 | cons a l ih =>
   rw[List.flatMap_cons,List.length_append]
   rcases List.mem_cons.1 h with rfl|h
   · omega
   · have:=ih h;omega
theorem up40 {s:List Nd} (wf:WF s):∃ h,Up s h 40:=by
 obtain⟨h,B,u⟩:=wf.up
 refine⟨fun n=>if n<s.length then (allF s (h n+1) n).length else 0,fun i=>?_,fun i x hx hp=>?_⟩
 · show (if i<s.length then (allF s (h i+1) i).length else 0)≤40
   split
   · exact Yr wf _ _ ‹_›
   · omega
 · have hi:=(List.getElem?_eq_some_iff.1 hx).1
   obtain⟨h1,h2⟩:=u.par i x hx hp
   refine⟨h1,?_⟩
   rcases wf.par i x hx with e|⟨q,y,e,hy,hm⟩
   · omega
   · have hq:=(List.getElem?_eq_some_iff.1 hy).1
     rw[e] at h2 ⊢
     simp only[Int.toNat_natCast] at h2 ⊢
     rw[if_pos hi,if_pos hq]
     have e2:allF s (h q+1) q=q::(ZD s q).flatMap (allF s (h q)):=rfl
     have e3:allF s (h i+1) i=allF s (h q) i:=Zcu wf u _ _ _ (by omega) h2
     rw[e2,e3,List.length_cons]
     have:=flat_len (f:=allF s (h q)) (show i∈ZD s q by rw[Yp hy];exact hm)
     omega
theorem YV {s:List Nd} {t n:Nat} {l:List Nat} (wf:WF s) (w:Way s t n l) {x:Nd} (hx:s[t]?=some x) (hp:x.p = -1):Zm s n t:=by
 induction w with
 | top=>exact⟨⟨0,rfl⟩,x,hx,hp⟩
 | @down q c i l y w hq hi ih =>
   obtain⟨z,hz,hzp⟩:=wf.kid q y hq c (List.mem_of_getElem? hi)
   exact Zm.up hz hzp ih
def PathInv (s:List Nd) (h:Nat→Nat) (n k:Nat) (w:World) (pv nv:Value) (wr:World):Prop :=
 ∃ (c:Nat) (l:List Nat),nv=.int .i64 (c:Int)∧wr.ownsRow (w.heap.size+1) 3 1 pv (l.length+1) (Zg (k::l.reverse))∧Below w.heap.size w wr∧w.heap.size+1≤wr.heap.size∧c<s.length∧h n+l.length≤h c∧(∀ t L,Way s t c L→Way s t n (L++l))
def PathPost (s:List Nd) (n k:Nat) (w:World) (e:Ending) (w':World):Prop :=
 ∃ (t:Nat) (l:List Nat) (g c:Nat),e=.returned (.slice (some ⟨g,0,none⟩) (l++[k]).length c)∧Way s t n l∧Zm s n t∧l.length≤40∧w.heap.size≤g∧g<w'.heap.size∧(∀ (j x:Nat),(l++[k])[j]?=some x→w'.cell? ⟨g,j,none⟩=some (.int .i64 (x:Int)))∧Below w.heap.size w w'
section
variable {w:World} {F:Nat→Prop} {bf bn cap:Nat} {pn:List PN} {s:List Nd}
theorem ZiC (wf:WF s) (hD:Zh w F bf bn cap pn s) (n k:Nat) (hn:n < s.length) :
 Calls Tryz.prog 153 #[ptr bf,.agg #[.int .i64 (n:Int),.int .i64 (k:Int)]] w (PathPost s n k w):=by
 obtain⟨h,u⟩:=up40 wf
 obtain⟨i0,hi,hz0,hz1,hz2⟩:=info_parts Tryz.infoInt
 have hcap:=wf.cap
 have h0:=hD.nodesCell
 have hlt:=hD.lt
 have HD:=hid hD
 have HW:=hid wf
 have HU:=hid u
 clear hD wf u
 go_enter Tryz.func153,Tryz.ntmps153
 go_wp2
 go_loopw [5,6] (fun pv nv wr=>PathInv s h n k w pv nv wr) (fun _ nv _=>Xg h 40 (intOf nv))
 case atStart =>
  refine⟨n,[],rfl,?_,?_,?_,hn,by simp,fun t L hw=>by simpa using hw⟩
  · have:=World.ownsRow_lit (base:=w.heap.size+1) (e:=3) (size:=1) (w.alloc (.cells #[.int .i64 (n:Int),.int .i64 (k:Int)] 37)) #[.int .i64 (k:Int)] 1 (by simp) (by decide) rfl
    simpa[Zg] using this
  · exact((Below.refl _ w).alloc (Nat.le_refl _) _).alloc (by simp) _
  · simp
 case round =>
  obtain⟨c,l,rfl,hrow,hb,hsz,hc,hlen,hway⟩:=hrel
  obtain⟨x,hx⟩:∃ x,s[c]?=some x:=⟨_,List.getElem?_eq_getElem hc⟩
  have hD1:=HD.out.below hb
  have g0:=hD1.nodesCell
  obtain⟨r,hr,ho,c0,c1,c2,c3⟩:=hD1.look hx
  have hl1:=hD1.lt
  have hh40:=HU.out.le c
  clear c1 c2 c3 hr ho
  by_cases hp:0≤x.p
  · obtain⟨j,m,y,hj,hy,hm,hno,hyl⟩:=HW.out.place hx hp
    have CI:=hid (Zcd hD1 c j m x y hx hj hy hm hno (by unfold lots;omega) (by unfold lots;omega))
    have hup:=(HU.out.par c x hx hp).2
    have hjl:=(List.getElem?_eq_some_iff.1 hy).1
    have hum:=Jq HU.out hx
    rw[hj] at c0 hup hum
    have HROW:=hid hrow
    have HB:=hid hb
    have HD1:=hid hD1
    have HWAY:=hid (And.intro hway (And.intro hy hm))
    have HUM:=hid hum
    have HXX:=hid hx
    have HJ:=hid hj
    clear hrow hb hD1 hway hx hy hm hno hum
    go_wp2_with (first
     | (go_at_call 106;refine CI.out.mono ?_;rintro e w1 ⟨rfl,q,rfl⟩
        have e0:=(ZcD _ q _).trans g0
        have e1:=(ZcD _ q _).trans c0)
     | (at_builtin
        go_must (have HS:Hid (YD ((wr.drewN q).alloc (.cells #[.int .i64 (m:Int)] 3)) 1 (.slice (some ⟨wr.heap.size,0,none⟩) 1 1) 1 [.int .i64 (m:Int)]):=.inr ⟨_,_,rfl,rfl,cell_one_new (wr.drewN q) _ _,by simp[Value.oneCell']⟩)
        have hr1:(wr.drewN q).ownsRow (w.heap.size+1) 3 1 u5 (l.length+1) (Zg (k::l.reverse)):=HROW.out
        refine X1 _ rfl (.tmp 29) (.tmp 33) 24 rfl (w.heap.size+1) 3 i0 (.int .i64 0) 1 8 Tryz.underlying24 hi hz0 hz1 hz2 rfl (by decide) _ (l.length+1) _ rfl (hr1.alloc _) _ 1 _ rfl HS.out (by unfold maxLen;omega) (by omega) (by simp;omega) ?_
        intro v2 w2 ho2 hb2
        have hB2:Below w.heap.size w w2:=HB.out.trans (((JE wr q).alloc (Nat.le_refl _) _ |>.mono HB.out.size).trans (hb2.mono (by omega)))
        have f0:=(hB2.cell (p:=⟨bf,0,none⟩) hlt.1).trans h0
        have f1:=hb2.cell (p:=⟨bn,c*4,none⟩)
        have HO2:=hid ho2
        have HB2:=hid (And.intro hB2 hb2.size)
        have hD2:=HD.out.below hB2
        obtain⟨r2,hr2,ho3,k0,-,-,-⟩:=hD2.look HXX.out
        rw[HJ.out] at k0
        clear ho2 hb2 hB2 f1 hr2 ho3 hD2 hr1))
    go_roundw
    case rel =>
     refine⟨j,m::l,rfl,?_,HB2.out.1,?_,hjl,?_,fun t L hw=>?_⟩
     · have:=HO2.out
       simpa[Zg] using this
     · have:=HB2.out.2;simp at this;omega
     · simp at hup ⊢;omega
     · have:=HWAY.out.1 t (L++[m]) (Way.down hw HWAY.out.2.1 HWAY.out.2.2)
       simpa using this
    case measure=>exact HUM.out
  · have hp1:x.p = -1:=by
     rcases HW.out.par c x hx with e|⟨q,y,e,_⟩
     · exact e
     · omega
    rw[hp1] at c0
    obtain⟨g,cp,cur,hv,hh,hn2,hcm,hcs,ht,hcell,hfr⟩:=ZaT (ks:=k::l.reverse) (by simpa using Ji hrow) (by simp)
    have hg:w.heap.size+1≤g:=by rw[hv] at hrow;exact(hrow.lt g rfl).1
    have CR:=hid (Tryz.slices_Reverse_int_cells g 0 (l.length+1) cp ((k::l.reverse).map Int.ofNat) wr (by simp) (by omega) hcell (fun j hj=>hfr j (by simpa using hj)))
    have hv':u5=.slice (some ⟨g,0,none⟩) (l.length+1) cp:=by simpa using hv
    have HF:=hid (And.intro hcell hfr)
    have hn3:l.length+1≤cur.size:=by rw[hcs];simpa using hn2
    have HB:=hid hb
    have HH:=hid hh
    have HWAY:=hid (hway c [] Way.top)
    have HX:=hid hx
    subst hv'
    clear hrow hb hcell hfr hh ht hway hx hv
    have hvals:(((k::l.reverse).map Int.ofNat).take (l.length+1)).reverse.map (Value.int .i64)=Zg (l++[k]):=by
     rw[List.take_of_length_le (by simp)];simp[Zg]
    rw[hvals] at CR
    clear hvals
    go_wp2_with (go_at_call 181;refine CR.out.mono ?_;rintro e w3 ⟨rfl,q,hw3⟩
                 have hk0:Zb (fun b=>b=g) wr (wr.drewN q):=⟨rfl,rfl,rfl,Nat.le_refl _,fun _ _ _=>rfl⟩
                 have hK:Zb (fun b=>b=g) wr w3:=by rw[hw3];exact Xv g _ 0 _ hk0 rfl
                 obtain⟨cur',k1,k2,k3⟩:=Xu g 3 (Zg (l++[k])) 0 (wr.drewN q) cur HH.out (by rw[intsV_length];simp;omega)
                 rw[← hw3] at k1
                 have HK:=hid (And.intro hK (And.intro k1 k3))
                 clear hw3 hK k1 k3 k2 hk0)
    go_ret
    obtain⟨hK,k1,k3⟩:=HK.out
    have hz:=HB.out.size
    have hz2:=hK.size
    refine⟨c,l,g,cp,by simp,by simpa using HWAY.out,YV HW.out (by simpa using HWAY.out) HX.out hp1,by omega,by omega,Zc k1,fun j x hx=>?_,?_⟩
    · rw[Za k1 j,← Array.getElem?_toList,k3]
      simp only[List.take_zero,List.nil_append]
      have hj:j<(Zg (l++[k])).length:=by rw[intsV_length];exact(List.getElem?_eq_some_iff.1 hx).1
      rw[List.getElem?_append_left hj]
      simp only[Zg,List.getElem?_map,hx]
      rfl
    · exact HB.out.trans ⟨hK.os,hK.tape,hK.output,hK.size,fun b hb=>hK.block b (by omega) (by omega)⟩
end
end
section
abbrev enc (l:List Nat):List Nat:=l.map (fun i=>2 * i+1)
theorem Yc (l:List Nat) (k:Nat):pw l k=enc l++[2 * k]:=rfl
def leP (P Q:List Nat):Prop:=P=Q∨lexN P Q
def under:List Nat→(List Nat→List Nat)→List Nat→List Nat
 | [],g,P=>g P
 | _::_,_,[]=>[]
 | p::P1,g,q::P=>if q=p then q::under P1 g P else q::P
theorem Ym (P1:List Nat) (g:List Nat→List Nat) (P:List Nat):under P1 g (P1++P)=P1++g P:=by
 induction P1 with
 | nil=>rfl
 | cons p P1 ih=>simp[under,ih]
theorem ZbP {a:Nat} {P Q:List Nat} (h:leP P Q):leP (a::P) (a::Q):=by
 rcases h with rfl|h
 · exact .inl rfl
 · exact .inr (.cons h)
def IsPw (P:List Nat):Prop:=∃ l k,P=pw l k
theorem IsPw.tail {a:Nat} {P:List Nat} (h:IsPw (a::P)) (ha:a % 2=1):IsPw P:=by
 obtain⟨l,k,h⟩:=h
 cases l with
 | nil=>simp[pw] at h;omega
 | cons b l =>
   rw[Xf] at h
   injection h with h1 h2
   exact⟨l,k,h2⟩
theorem IsPw.ne {P:List Nat} (h:IsPw P):P≠[]:=by
 obtain⟨l,k,rfl⟩:=h
 simp[pw]
theorem ZiQ {g:List Nat→List Nat} (hg:∀ a r e,g (a::r++[e])=g (a::r)++[e]):∀ (P1 X:List Nat) (e:Nat),X≠P1→under P1 g (X++[e])=under P1 g X++[e]∨(∃ Y,P1=X++e::Y):=by
 intro P1
 induction P1 with
 | nil =>
   intro X e hX
   cases X with
   | nil=>exact absurd rfl hX
   | cons a X=>exact .inl (hg a X e)
 | cons p P1 ih =>
   intro X e hX
   cases X with
   | nil =>
     by_cases h:e=p
     · subst h;exact .inr ⟨P1,rfl⟩
     · left;simp[under,h]
   | cons a X =>
     by_cases h:a=p
     · subst h
       rcases ih X e (fun e=>hX (by rw[e])) with h1|⟨Y,h1⟩
       · left;simp[under,h1]
       · right;exact⟨Y,by rw[h1];rfl⟩
     · left;simp[under,h]
theorem ZeI {g:List Nat→List Nat} (h0:g []=[]):∀ (P1 X Y:List Nat),P1=X++Y→under P1 g X=X:=by
 intro P1
 induction P1 with
 | nil=>intro X Y h;simp at h;rw[h.1];exact h0
 | cons p P1 ih =>
   intro X Y h
   cases X with
   | nil=>rfl
   | cons a X =>
     simp at h
     obtain⟨rfl,h⟩:=h
     simp[under,ih X Y h]
theorem Za5 {g:List Nat→List Nat} (hg:∀ a r e,g (a::r++[e])=g (a::r)++[e]) (h0:g []=[]) (P1 X:List Nat) (e:Nat) (hX:X≠P1):under P1 g (X++[e])=under P1 g X++[e]:=by
 rcases ZiQ hg P1 X e hX with h|⟨Y,h⟩
 · exact h
 · rw[ZeI h0 P1 (X++[e]) Y (by rw[h];simp),ZeI h0 P1 X (e::Y) h]
theorem Y0 {l m:List Nat} (h:enc l=enc m):l=m:=(List.map_inj_right (fun a b e=>by omega)).1 h
theorem ZhZ {α:Type} (l:List α):l=[]∨∃ m a,l=m++[a]:=by
 rcases List.eq_nil_or_concat l with h|⟨m,a,h⟩
 · exact .inl h
 · exact .inr ⟨m,a,by rw[h,List.concat_eq_append]⟩
theorem Way.node {s:List Nd} {t n:Nat} {l:List Nat} (w:Way s t n l):∀ {m:Nat},Way s t m l→n=m:=by
 induction w with
 | top =>
   intro m w
   generalize hl:([]:List Nat)=l at w
   cases w with
   | top=>rfl
   | down _ _ _=>simp at hl
 | @down q c i l y w hq hi ih =>
   intro m w2
   generalize hl:l++[i]=l2 at w2
   cases w2 with
   | top=>simp at hl
   | @down q2 _ i2 l2 y2 w3 hq2 hi2 =>
     have h1:=List.append_inj_left' hl rfl
     have h2:=List.append_inj_right' hl rfl
     subst h1
     simp at h2
     subst h2
     obtain rfl:=ih w3
     rw[hq] at hq2
     cases hq2
     rw[hi] at hi2
     exact Option.some.inj hi2
theorem Way.only {s:List Nd} (wf:WF s) {t n:Nat} {l:List Nat} (w:Way s t n l) (ht:∃ x,s[t]?=some x∧x.p = -1):∀ {l2:List Nat},Way s t n l2→l=l2:=by
 induction w with
 | top =>
   intro l2 w2
   cases w2 with
   | top=>rfl
   | @down q _ i l y w3 hq hi =>
     exfalso
     obtain⟨x,hx,hp⟩:=ht
     obtain⟨z,hz,hzp⟩:=wf.kid q y hq t (List.mem_of_getElem? hi)
     rw[hx] at hz
     cases hz
     omega
 | @down q c i l y w hq hi ih =>
   intro l2 w2
   obtain⟨z,hz,hzp⟩:=wf.kid q y hq c (List.mem_of_getElem? hi)
   cases w2 with
   | top =>
     exfalso
     obtain⟨x,hx,hp⟩:=ht
     rw[hx] at hz
     cases hz
     omega
   | @down q2 _ i2 l2 y2 w3 hq2 hi2 =>
     obtain⟨z2,hz2,hzp2⟩:=wf.kid q2 y2 hq2 c (List.mem_of_getElem? hi2)
     rw[hz] at hz2
     cases hz2
     obtain rfl:q=q2:=by omega
     rw[hq] at hq2
     cases hq2
     obtain rfl:=ih w3
     have hnd:=wf.nodup q y hq
     have:i=i2:=by
      have h1:=(List.getElem?_eq_some_iff.1 hi)
      have h2:=(List.getElem?_eq_some_iff.1 hi2)
      exact(List.getElem_inj hnd).1 (h1.2.trans h2.2.symm)
     rw[this]
theorem Way.moved {s s':List Nd} (wf:WF s) {t p:Nat} {lp:List Nat} (ht:∃ x,s[t]?=some x∧x.p = -1) (wp:Way s t p lp) (out:Nat→Prop) (φ:Nat→Nat) {g:List Nat→List Nat} (g0:g []=[]) (gs:∀ a r e,g (a::r++[e])=g (a::r)++[e])
 (g1:∀ (i c:Nat) (y:Nd),s[p]?=some y→y.ks[i]?=some c→¬ out c→g [2*i+1]=[2*φ i+1])
 (h1:∀ (i c:Nat) (y:Nd),s[p]?=some y→y.ks[i]?=some c→¬ out c→∃ y',s'[p]?=some y'∧y'.ks[φ i]?=some c)
 (h2:∀ (q i c:Nat) (y:Nd),q≠p→s[q]?=some y→y.ks[i]?=some c→¬ out c→∃ y',s'[q]?=some y'∧y'.ks[i]?=some c)
 (ho:∀ (q i c:Nat) (y:Nd),s[q]?=some y→y.ks[i]?=some c→¬ out c→¬ out q) {n:Nat} {l:List Nat} (w:Way s t n l):¬ out n→∃ l',Way s' t n l'∧enc l'=under (enc lp) g (enc l):=by
 induction w with
 | top =>
   intro _
   refine⟨[],.top,?_⟩
   cases hlp:enc lp with
   | nil=>simp[under,g0]
   | cons a r=>simp[under]
 | @down q c i l y w hq hi ih =>
   intro hc
   obtain⟨l',w',e'⟩:=ih (ho q i c y hq hi hc)
   have e1:enc (l++[i])=enc l++[2*i+1]:=by simp[enc]
   by_cases hqp:q=p
   · subst hqp
     obtain rfl:=wp.only wf ht w
     obtain⟨y',hy',hi'⟩:=h1 i c y hq hi hc
     have e2:l'=lp:=by
      have h3:=Ym (enc lp) g []
      rw[List.append_nil,g0,List.append_nil] at h3
      rw[h3] at e'
      exact Y0 e'
     subst e2
     refine⟨l'++[φ i],.down w' hy' hi',?_⟩
     rw[e1,Ym,g1 i c y hq hi hc]
     simp[enc]
   · obtain⟨y',hy',hi'⟩:=h2 q i c y hqp hq hi hc
     refine⟨l'++[i],.down w' hy' hi',?_⟩
     have hne:enc l≠enc lp:=fun e=>hqp (w.node (by rw[Y0 e];exact wp))
     rw[e1,Za5 gs g0 _ _ _ hne,← e']
     simp[enc]
theorem Zgn:∀ (P Q:List Nat),lexN P Q∨P=Q∨lexN Q P:=by
 intro P
 induction P with
 | nil =>
   intro Q
   cases Q with
   | nil=>exact .inr (.inl rfl)
   | cons b Q=>exact .inl .nil
 | cons a P ih =>
   intro Q
   cases Q with
   | nil=>exact .inr (.inr .nil)
   | cons b Q =>
     rcases Nat.lt_trichotomy a b with h|h|h
     · exact .inl (.rel h)
     · subst h
       rcases ih Q with h|h|h
       · exact .inl (.cons h)
       · exact .inr (.inl (by rw[h]))
       · exact .inr (.inr (.cons h))
     · exact .inr (.inr (.rel h))
theorem Zgl {l l2:List Nat} {k k2:Nat} (h:lexC (l++[k]) (l2++[k2])≤0):leP (pw l k) (pw l2 k2):=by
 rcases Zgn (pw l k) (pw l2 k2) with h1|h1|h1
 · exact .inr h1
 · exact .inl h1
 · have:=ZaD _ _ _ _ h1
   rw[Zdu,this] at h
   simp at h
theorem X0 {s:List Nd} (wf:WF s) {n t:Nat} (ht:Zm s n t) (hn:n < s.length):∃ l,Way s t n l:=by
 obtain⟨⟨m,hm⟩,x,hx,hp⟩:=ht
 have key:∀ (m n:Nat),n<s.length→climb s m n=(t:Int)→∃ l,Way s t n l:=by
  intro m
  induction m with
  | zero =>
    intro n hn h
    have:n=t:=by simp[climb] at h;omega
    subst this
    exact⟨[],.top⟩
  | succ m ih =>
    intro n hn h
    have hx:=List.getElem?_eq_getElem hn
    rcases wf.par n _ hx with hp|⟨i,y,hp,hy,hc⟩
    · exfalso
      have h1:climb s 1 n = -1:=by simp[climb,Zw,hx,hp]
      have h2:=XL (s:=s) (j:=1) (n:=n) (by rw[h1];decide) m
      rw[Nat.add_comm] at h2
      omega
    · have h1:climb s 1 n=(i:Int):=by simp[climb,Zw,hx,hp]
      have h2:=YG h1 m
      rw[Nat.add_comm] at h2
      rw[h2] at h
      obtain⟨l,wl⟩:=ih i (List.getElem?_eq_some_iff.1 hy).1 h
      obtain⟨k,hk,e⟩:=List.mem_iff_getElem.1 hc
      exact⟨l++[k],.down wl hy (by rw[List.getElem?_eq_getElem hk,e])⟩
 exact key m n hn hm
def SpIs (s:List Nd) (z:Sp):Prop:=∃ (n k n2 k2 t:Nat) (l l2:List Nat),z=⟨n,k,n2,k2⟩∧PlOk s n k∧PlOk s n2 k2∧Zm s n t∧Way s t n l∧Way s t n2 l2∧leP (pw l k) (pw l2 k2)
theorem SpIs.ok {s:List Nd} {z:Sp} (h:SpIs s z):SpOk s z:=by
 obtain⟨n,k,n2,k2,t,l,l2,rfl,h1,h2,_⟩:=h
 exact⟨h1,h2⟩
def Good (s:List Nd) (t:Nat) (P:List Nat):Prop:=∃ (n k:Nat) (l:List Nat),PlOk s n k∧Way s t n l∧P=pw l k
structure YM (s s':List Nd) (t t':Nat) (f:Mvf) (E:List Nat→List Nat):Prop where
 mono:∀ P Q,Good s t P→Good s t Q→lexN P Q→leP (E P) (E Q)
 top:∃ x,s'[t']?=some x∧x.p = -1
 one:∀ (n k:Nat) (l:List Nat),PlOk s n k→Way s t n l→∃ (n' k':Nat) (l':List Nat),f n k=((n':Int),(k':Int))∧PlOk s' n' k'∧Way s' t' n' l'∧pw l' k'=E (pw l k)
theorem SpIs.mv {s s':List Nd} (wf':WF s') {f:Mvf} (h:∀ t,(∃ x,s[t]?=some x∧x.p = -1)→∃ t' E,YM s s' t t' f E) {z:Sp} (hz:SpIs s z):SpIs s' (mvSp f z):=by
 obtain⟨n,k,n2,k2,t,l,l2,rfl,h1,h2,ht,w1,w2,hle⟩:=hz
 obtain⟨t',E,M⟩:=h t ht.2
 obtain⟨n',k',l',e1,p1,w1',q1⟩:=M.one n k l h1 w1
 obtain⟨n2',k2',l2',e2,p2,w2',q2⟩:=M.one n2 k2 l2 h2 w2
 obtain⟨x,hx,hp⟩:=M.top
 refine⟨n',k',n2',k2',t',l',l2',?_,p1,p2,YV wf' w1' hx hp,w1',w2',?_⟩
 · simp only[mvSp,e1,e2]
 · rw[q1,q2]
   rcases hle with h|h
   · exact .inl (by rw[h])
   · exact M.mono _ _ ⟨_,_,_,h1,w1,rfl⟩ ⟨_,_,_,h2,w2,rfl⟩ h
theorem Za4 {g:List Nat→List Nat} {ok:List Nat→Prop} (hg:∀ R R',ok R→ok R'→lexN R R'→leP (g R) (g R')) :
 ∀ (P1 P Q:List Nat),(∀ R,P=P1++R→ok R)→(∀ R,Q=P1++R→ok R)→lexN P Q→leP (under P1 g P) (under P1 g Q):=by
 intro P1
 induction P1 with
 | nil=>intro P Q hP hQ h;exact hg P Q (hP P rfl) (hQ Q rfl) h
 | cons p P1 ih =>
   intro P Q hP hQ h
   cases Q with
   | nil=>exact absurd h (fun h=>Xw h)
   | cons b Q =>
     cases P with
     | nil =>
       have:∃ Y,under (p::P1) g (b::Q)=b::Y:=by
        simp only[under]
        by_cases h2:b=p <;> simp[h2]
       obtain⟨Y,e⟩:=this
       rw[e]
       exact .inr .nil
     | cons a P =>
       rcases YL h with hab|⟨rfl,hPQ⟩
       · have:∃ X Y,under (p::P1) g (a::P)=a::X∧under (p::P1) g (b::Q)=b::Y:=by
          simp only[under]
          by_cases h1:a=p <;> by_cases h2:b=p <;> simp[h1,h2]
         obtain⟨X,Y,e1,e2⟩:=this
         rw[e1,e2]
         exact .inr (.rel hab)
       · simp only[under]
         by_cases h1:a=p
         · subst h1
           simp only[if_true]
           exact ZbP (ih P Q (fun R e=>hP R (by rw[e];rfl)) (fun R e=>hQ R (by rw[e];rfl)) hPQ)
         · simp only[h1,if_false]
           exact .inr (.cons hPQ)
theorem Way.cut {s:List Nd} {t n:Nat} {l:List Nat} (w:Way s t n l):∀ (l1:List Nat) (c:Nat) (l2:List Nat),l=l1++c::l2→∃ (p q:Nat) (y:Nd),Way s t p l1∧s[p]?=some y∧y.ks[c]?=some q∧Way s q n l2:=by
 induction w with
 | top=>intro l1 c l2 h;simp at h
 | @down q c i l y w hq hi ih =>
   intro l1 d l2 h
   rcases ZhZ l2 with rfl|⟨l3,a,rfl⟩
   · have h1:=List.append_inj_left' h rfl
     have h2:=List.append_inj_right' h rfl
     simp at h2
     subst h1
     subst h2
     exact⟨q,c,y,w,hq,hi,.top⟩
   · have e:l1++d::(l3++[a])=(l1++d::l3)++[a]:=by simp
     rw[e] at h
     have h1:=List.append_inj_left' h rfl
     have h2:=List.append_inj_right' h rfl
     simp at h2
     subst h2
     obtain⟨p,q2,y2,w1,hy2,hq2,w2⟩:=ih l1 d l3 h1
     exact⟨p,q2,y2,w1,hy2,hq2,.down w2 hq hi⟩
theorem Way.append {s:List Nd} {t q n:Nat} {l1 l2:List Nat} (w1:Way s t q l1) (w2:Way s q n l2):Way s t n (l1++l2):=by
 induction w2 with
 | top=>simpa using w1
 | @down p c i l y w hp hi ih=>rw[← List.append_assoc];exact .down ih hp hi
theorem Way.same {s s':List Nd} {t n:Nat} {l:List Nat} (w:Way s t n l) (h:∀ (q:Nat) (l:List Nat) (y:Nd),Way s t q l→s[q]?=some y→∃ y',s'[q]?=some y'∧y'.ks=y.ks):Way s' t n l:=by
 induction w with
 | top=>exact .top
 | @down q c i l y w hq hi ih =>
   obtain⟨y',hy',e⟩:=h q l y w hq
   exact .down ih hy' (by rw[e];exact hi)
theorem Jl {lp l:List Nat} {k:Nat} {R:List Nat} (h:pw l k=enc lp++R):∃ l2,l=lp++l2∧R=pw l2 k:=by
 induction lp generalizing l with
 | nil=>exact⟨l,rfl,by simpa using h.symm⟩
 | cons a lp ih =>
   cases l with
   | nil=>simp[pw] at h;omega
   | cons b l =>
     rw[Xf] at h
     simp only[enc,List.map_cons,List.cons_append] at h
     injection h with h1 h2
     obtain⟨l2,e1,e2⟩:=ih h2
     exact⟨l2,by rw[e1];simp;omega,e2⟩
end
section
open Go.RowKit
theorem Zgc {F:Nat→Prop} {a w:World} (h:Zb F a w) {p:Addr} (hp:F p.block) (n:Nat):Zb F a (w.freeze p n):=by
 refine h.trans (Zb.mono (F:=F) ?_ (fun k _ e=>.inl e))
 unfold World.freeze
 split
 · exact Zb.refl _ _
 · exact⟨rfl,rfl,rfl,by simp,fun k hk hF=>by
    simp only[Array.getElem?_modify]
    rw[if_neg (fun e=>hF (by rw[← e];exact hp))]⟩
theorem Tryz.cellsByte:Tryz.prog.cellsOf 5=1:=by kernel_rfl
set_option maxRecDepth 100000 in
theorem bstringV {b:Nat} {v:Value} (l:List UInt8) {w:World} (h:BldV b v (Lib.byteCells l) w) :
 Calls Tryz.prog 148 #[ptr b] w fun e w'=>e=.returned (.string ⟨l.toArray⟩)∧Zb (fun k=>v.ownBlock=some k) w w':=by
 obtain⟨h1,hown,hne⟩:=h
 obtain⟨p,hbk⟩:∃ p,w.heap[b]?=some (.cells #[p,v] 219 (0,0)):=h1.elim (fun h=>⟨_,h⟩) (fun h=>⟨_,h⟩)
 clear h1
 have hlt:=Zc hbk
 rw[Lib.byteCells_length] at hown
 by_cases h0:l=[]
 · subst h0
   have hUS:=fun (W:World) (q:Option Addr)=>Lib.run_unsafeString_none (P:=Tryz.prog) W 252 3 9 q
   rcases hown.2 with ⟨rfl,_⟩|⟨g,cap,cur,rfl,hbg,hg,_,_,_,_⟩
   · have c1:w.drew.cell? ⟨b,1,none⟩=some (.slice none 0 0):=Za (w:=w.drew) hbk 1
     have hSD:(Builtin.unsafeSliceData_ #[217] 252 #[.slice none 0 0]).run Tryz.prog w.drew=.ok (.pointer none) w.drew:=rfl
     clear hown hbk
     go_enter Tryz.func148,Tryz.ntmps148
     go_wp2
     go_region
     all_goals (go_wp2;go_ret;exact⟨rfl,(Zb.refl _ w).drew⟩)
   · by_cases hc0:cap=0
     · subst hc0
       have c0:w.cell? ⟨b,1,none⟩=some (.slice (some ⟨g,0,none⟩) 0 0):=Za hbk 1
       have c1:w.drew.cell? ⟨b,1,none⟩=some (.slice (some ⟨g,0,none⟩) 0 0):=c0
       have hSD:(Builtin.unsafeSliceData_ #[217] 252 #[.slice (some ⟨g,0,none⟩) 0 0]).run Tryz.prog w.drew=.ok (.pointer (some ⟨w.drew.heap.size,0,none⟩)) (w.drew.alloc (.view ⟨g,0,none⟩ 5)) :=
        Lib.run_unsafeSliceData_zero w.drew _ _ 5 Tryz.underlying252 ⟨g,0,none⟩ 0 (5,cur.size) (by have hg':w.drew.heap[g]?=some (.cells cur 5 (0,0)):=hg;simp[World.shape?,hg'])
       have c2:(w.drew.alloc (.view ⟨g,0,none⟩ 5)).cell? ⟨b,1,none⟩=some (.slice (some ⟨g,0,none⟩) 0 0):=by
        have:(w.drew.alloc (.view ⟨g,0,none⟩ 5)).heap[b]?=_:=(Below.heap_alloc w.drew _ b hlt).trans hbk
        exact Za this 1
       have c3:(w.alloc (.view ⟨g,0,none⟩ 5)).drew.cell? ⟨b,1,none⟩=some (.slice (some ⟨g,0,none⟩) 0 0):=c2
       clear hown hbk hg
       go_enter Tryz.func148,Tryz.ntmps148
       go_wp2
       go_region
       all_goals (go_wp2;go_ret;exact⟨rfl,((Zb.refl _ w).drew).alloc _⟩)
     · have c1:w.drew.cell? ⟨b,1,none⟩=some (.slice (some ⟨g,0,none⟩) 0 cap):=Za (w:=w.drew) hbk 1
       have hSD:(Builtin.unsafeSliceData_ #[217] 252 #[.slice (some ⟨g,0,none⟩) 0 cap]).run Tryz.prog w.drew=.ok (.pointer (some ⟨g,0,none⟩)) w.drew:=Lib.run_unsafeSliceData_row _ _ _ _ _ _ hc0
       clear hown hbk hg hc0
       go_enter Tryz.func148,Tryz.ntmps148
       go_wp2
       go_region
       all_goals (go_wp2;go_ret;exact⟨rfl,(Zb.refl _ w).drew⟩)
 · have hl0:l.length≠0:=by simpa using h0
   obtain⟨g,cap,cur,rfl,hbg,hg,hnc,hcm,hcs,htake⟩:∃ g cap cur,v=.slice (some ⟨g,0,none⟩) l.length cap∧0≤g∧w.heap[g]?=some (.cells cur 5 (0,0))∧l.length≤cap∧cap≤maxLen∧cur.size=cap*1∧cur.toList.take (l.length*1)=Lib.byteCells l:=by
    rcases hown.2 with ⟨_,hz⟩|⟨g,cap,cur,hv,r⟩
    · exact absurd hz hl0
    · exact⟨g,cap,cur,hv,r⟩
   have c1:w.drew.cell? ⟨b,1,none⟩=some (.slice (some ⟨g,0,none⟩) l.length cap):=Za (w:=w.drew) hbk 1
   have hSD:(Builtin.unsafeSliceData_ #[217] 252 #[.slice (some ⟨g,0,none⟩) l.length cap]).run Tryz.prog w.drew=.ok (.pointer (some ⟨g,0,none⟩)) w.drew:=Lib.run_unsafeSliceData_row _ _ _ _ _ _ (by omega)
   have hUS:(Builtin.unsafeString_ #[252,3] 9 #[.pointer (some ⟨g,0,none⟩),.int .i64 l.length]).run Tryz.prog w.drew=.ok (.string ⟨l.toArray⟩) (w.drew.freeze ⟨g,0,none⟩ l.length):=by
    refine Lib.run_unsafeString_row w.drew 252 3 9 5 Tryz.underlying252 Tryz.cellsByte g cur.size (by have hg':w.drew.heap[g]?=some (.cells cur 5 (0,0)):=hg;simp[World.shape?,hg']) l h0 (by omega) (by unfold maxLen at hcm;omega) ?_
    intro j x hx
    have:=hown.cells (g:=g) rfl j (.int .u8 x.toNat) (by simp[Lib.byteCells,hx])
    exact this
   have HK:=hid (Zgc (F:=fun k=>(Value.slice (some ⟨g,0,none⟩) l.length cap).ownBlock=some k) ((Zb.refl _ w).drew) (p:=⟨g,0,none⟩) rfl l.length)
   clear hown hbk hg hnc hcm hcs htake
   go_enter Tryz.func148,Tryz.ntmps148
   go_wp2
   go_region
   all_goals (go_wp2;go_ret;exact⟨rfl,HK.out⟩)
end
section
theorem Zf0 (l:List Nat) (m n:Nat) (h:l[m]?=some n) (hno:n∉l.take m):l.idxOf n=m:=by
 induction l generalizing m with
 | nil=>simp at h
 | cons a l ih =>
   cases m with
   | zero =>
     simp at h
     subst h
     simp
   | succ m =>
     simp only[List.take_succ_cons,List.mem_cons,not_or] at hno
     simp only[List.getElem?_cons_succ] at h
     rw[List.idxOf_cons,ih m h hno.2]
     have:(a == n)=false:=by simpa using fun e=>hno.1 e.symm
     simp[this]
def insB (s:List Nd) (L:List (Nat × Nat)) (a b c d n:Nat):Bool :=
 match s[n]? with
 | none=>false
 | some x=>if x.p<0 then false else
   match s[x.p.toNat]? with
   | none=>false
   | some y=>cov L a b c d x.p.toNat (y.ks.idxOf n)
theorem ZbN {s:List Nd} {L:List (Nat × Nat)} {a b c d n j m:Nat} {x y:Nd} (hx:s[n]?=some x) (hj:x.p=(j:Int)) (hy:s[j]?=some y) (hm:y.ks[m]?=some n) (hno:n∉y.ks.take m):insB s L a b c d n=cov L a b c d j m:=by
 have e:x.p.toNat=j:=by rw[hj];rfl
 unfold insB
 rw[hx]
 simp only
 rw[if_neg (by rw[hj];omega),e,hy]
 simp only
 rw[Zf0 _ _ _ hm hno]
theorem Zdj {s:List Nd} {L:List (Nat × Nat)} {a b c d n:Nat} {x:Nd} (hx:s[n]?=some x) (hp:x.p < 0):insB s L a b c d n=false:=by
 unfold insB
 rw[hx]
 simp only
 rw[if_pos hp]
theorem Zdi {s:List Nd} {L:List (Nat × Nat)} {a b c d n:Nat} (h:insB s L a b c d n=true):∃ x,s[n]?=some x∧0≤x.p:=by
 unfold insB at h
 split at h
 · cases h
 · rename_i x hx
   split at h
   · cases h
   · exact⟨x,hx,by omega⟩
def Y1 (s:List Nd) (L:List (Nat × Nat)) (a b c d n:Nat):Bool:=insB s L a b c d n && !insB s L a b c d (Zw s n).toNat
def ZG (s:List Nd) (L:List (Nat × Nat)) (a b c d:Nat) (ns:List Nat):List Nat:=ns.filter (Y1 s L a b c d)
theorem Zds (s:List Nd) (L:List (Nat × Nat)) (a b c d:Nat) (ns:List Nat) (n:Nat):ZG s L a b c d (ns++[n])=ZG s L a b c d ns++(if Y1 s L a b c d n then [n] else []):=by
 simp[ZG,List.filter_append,List.filter_cons]
theorem JZ (s:List Nd) (L:List (Nat × Nat)) (a b c d:Nat) (ns:List Nat):(ZG s L a b c d ns).length≤ns.length:=List.length_filter_le _ _
theorem Zdt {s:List Nd} (wf:WF s) {L:List (Nat × Nat)} {a b c d n:Nat} {ns:List Nat} (h:n∈ZG s L a b c d ns):∃ (x y:Nd) (j m:Nat),s[n]?=some x∧x.p=(j:Int)∧s[j]?=some y∧y.ks[m]?=some n∧n∉y.ks.take m∧cov L a b c d j m=true:=by
 have h1:=(List.mem_filter.1 h).2
 unfold Y1 at h1
 rw[Bool.and_eq_true] at h1
 obtain⟨x,hx,hp⟩:=Zdi h1.1
 obtain⟨j,m,y,hj,hy,hm,hno,_⟩:=wf.place hx hp
 exact⟨x,y,j,m,hx,hj,hy,hm,hno,by rw[← ZbN hx hj hy hm hno];exact h1.1⟩
theorem climb_lt {s:List Nd} (wf:WF s) {a:Nat} (ha:a < s.length):∀ (q n:Nat),climb s q a=(n:Int)→n < s.length:=by
 intro q
 cases q with
 | zero=>intro n h;simp[climb] at h;omega
 | succ q =>
   intro n h
   by_cases hneg:climb s q a<0
   · simp[climb,hneg] at h
   · obtain⟨m,hm⟩:=Int.eq_ofNat_of_zero_le (show 0≤climb s q a by omega)
     rw[Ya hm] at h
     unfold Zw at h
     split at h
     · rename_i x hx
       rcases wf.par m x hx with h1|⟨i,y,h1,h2,_⟩
       · omega
       · have:=(List.getElem?_eq_some_iff.1 h2).1
         omega
     · omega
theorem Zfi {s:List Nd} (wf:WF s) {a:Nat}:∀ (q n:Nat),climb s q a=(n:Int)→∃ l,Way s n a l:=by
 intro q
 induction q with
 | zero =>
   intro n h
   have:a=n:=by simp[climb] at h;omega
   subst this
   exact⟨[],.top⟩
 | succ q ih =>
   intro n h
   by_cases hneg:climb s q a<0
   · simp[climb,hneg] at h
   · obtain⟨m,hm⟩:=Int.eq_ofNat_of_zero_le (show 0≤climb s q a by omega)
     obtain⟨l,hl⟩:=ih m hm
     rw[Ya hm] at h
     unfold Zw at h
     split at h
     · rename_i x hx
       obtain⟨j,k,y,hj,hy,hk,_,_⟩:=wf.place hx (by omega)
       obtain rfl:j=n:=by omega
       exact⟨[]++[k]++l,(Way.down .top hy hk).append hl⟩
     · omega
theorem Zm.climb {s:List Nd} {a p q t:Nat} (ta:Zm s a t) (hq:climb s q a=(p:Int)):Zm s p t:=by
 obtain⟨M,hM⟩:=ta.1
 refine⟨?_,ta.2⟩
 rcases Nat.lt_or_ge M q with hlt|hge
 · exfalso
   obtain⟨x0,hx0,hp0⟩:=ta.2
   have h1:Go.Proofs.YtabogkonklplcaaGreatDoor.climb s (M+1) a<0:=by rw[Ya hM];simp[Zw,hx0,hp0]
   have h2:=XL h1 (q - (M+1))
   rw[show M+1+(q - (M+1))=q by omega,hq] at h2
   omega
 · have:=YG hq (M - q)
   rw[show q+(M - q)=M by omega,hM] at this
   exact⟨_,this.symm⟩
theorem Zm.par {s:List Nd} {n j t:Nat} {x:Nd} (h:Zm s n t) (hx:s[n]?=some x) (hj:x.p=(j:Int)):Zm s j t :=
 h.climb (q:=1) (by rw[Ya (j:=0) (e:=n) rfl];simp[Zw,hx,hj])
theorem Zdv (l x y:List Nat):lexC (l++x) (l++y)=lexC x y:=by
 induction l with
 | nil=>rfl
 | cons a l ih=>simp[lexC,ih]
structure Zac (s:List Nd) (K a c q n p m:Nat) (x y:Nd):Prop where
 up:∀ r,r≤q→∃ n':Nat,climb s r a=(n':Int)∧n' < s.length∧c∉allF s K n'
 last:climb s q a=(n:Int)
 hx:s[n]?=some x
 hp:x.p=(p:Int)
 hy:s[p]?=some y
 hm:y.ks[m]?=some n
 hno:n∉y.ks.take m
 hold:c∈allF s K p
theorem Zgb {s:List Nd} (wf:WF s) {K a c:Nat} (ha:a < s.length) (hca:c∉allF s K a):∀ (N M:Nat),M≤N→∀ t:Nat,climb s M a=(t:Int)→c∈allF s K t→∃ q n p m x y,Zac s K a c q n p m x y:=by
 intro N
 induction N with
 | zero =>
   intro M hM t ht hc
   obtain rfl:M=0:=by omega
   have:a=t:=by simp[climb] at ht;omega
   subst this
   exact absurd hc hca
 | succ N ih =>
   intro M hM t ht hc
   by_cases he:∃ r,r<M∧∃ n':Nat,climb s r a=(n':Int)∧c∈allF s K n'
   · obtain⟨r,hr,n',h1,h2⟩:=he
     exact ih r (by omega) n' h1 h2
   · cases M with
     | zero =>
       have:a=t:=by simp[climb] at ht;omega
       subst this
       exact absurd hc hca
     | succ q =>
       have hup:∀ r,r≤q→∃ n':Nat,climb s r a=(n':Int)∧n' < s.length∧c∉allF s K n':=by
        intro r hr
        by_cases hneg:climb s r a<0
        · have:=XL hneg (q+1 - r)
          rw[show r+(q+1 - r)=q+1 by omega,ht] at this
          omega
        · obtain⟨m,hm⟩:=Int.eq_ofNat_of_zero_le (show 0≤climb s r a by omega)
          exact⟨m,hm,climb_lt wf ha r m hm,fun hc'=>he ⟨r,by omega,m,hm,hc'⟩⟩
       obtain⟨n,hn,hnl,_⟩:=hup q (Nat.le_refl _)
       have hx:s[n]?=some s[n]:=List.getElem?_eq_getElem hnl
       have hpar:=Ya hn
       rw[ht] at hpar
       simp only[Zw,hx] at hpar
       obtain⟨j,m,y,hj,hy,hm,hno,_⟩:=wf.place hx (by omega)
       obtain rfl:j=t:=by omega
       exact⟨q,n,j,m,_,y,hup,hn,hx,hj,hy,hm,hno,hc⟩
section
variable {s:List Nd} {h:Nat→Nat} {B a b c d t:Nat}
theorem ZaA (wf:WF s) {j m n:Nat} {y:Nd} (hy:s[j]?=some y) (hm:y.ks[m]?=some n):y.t=false∧m+1≤Zn s j:=by
 have hl:=(List.getElem?_eq_some_iff.1 hm).1
 have ht:y.t=false:=by
  cases e:y.t with
  | false=>rfl
  | true=>rw[(wf.elem j y hy).1 e] at hl;simp at hl
 exact⟨ht,by rw[ZE hy,Yg ht];omega⟩
theorem Zh7 (wf:WF s) (u:Up s h B) (ha:a < s.length) (ta:Zm s a t) (hb:b≤Zn s a) {m n:Nat} {y:Nd} (hy:s[a]?=some y) (hm:y.ks[m]?=some n) (hc:cov (plF s (B+1) t) a b c d a m=true):b≤m:=by
 obtain⟨l,wa⟩:=X0 wf ta ha
 have hk:=(ZaA wf hy hm).2
 have h1:=XM wf u wa wa hb (show m≤Zn s a by omega) (YW _ _) (YW _ _)
 unfold cov at hc
 rw[Bool.and_eq_true,decide_eq_true_eq] at hc
 rw[Zdv] at h1
 rcases Nat.lt_or_ge m b with hlt|hge
 · have e:lexC [b] [m]=1:=by simp only[lexC];rw[if_neg (by omega),if_pos (by omega)]
   rw[e] at h1
   split at h1
   · cases h1
   · split at h1
     · rename_i h2 h3;have:=hc.1;omega
     · cases h1
 · exact hge
theorem Zga (wf:WF s) (u:Up s h B) (ha:a < s.length) (ta:Zm s a t) (hb:b≤Zn s a) {q n p m m' n':Nat} {x y:Nd} (hJ:Zac s (B+1) a c q n p m x y) (hm:y.ks[m']?=some n') (hc:cov (plF s (B+1) t) a b c d p m'=true):m+1≤m':=by
 have hpl:p<s.length:=(List.getElem?_eq_some_iff.1 hJ.hy).1
 obtain⟨l2,w2⟩:=Zfi wf q n hJ.last
 have tp:Zm s p t:=ta.climb (q:=q+1) (by rw[Ya hJ.last];simp[Zw,hJ.hx,hJ.hp])
 obtain⟨lp,wp⟩:=X0 wf tp hpl
 have wa:Way s t a ((lp++[m])++l2):=(Way.down wp hJ.hy hJ.hm).append w2
 have hk:=(ZaA wf hJ.hy hm).2
 have h1:=XM wf u wa wp hb (show m'≤Zn s p by omega) (YW _ _) (YW _ _)
 unfold cov at hc
 rw[Bool.and_eq_true,decide_eq_true_eq] at hc
 have e0:lp++[m]++l2++[b]=lp++(m::(l2++[b])):=by simp
 rw[e0,Zdv] at h1
 rcases Nat.lt_or_ge m m' with hlt|hge
 · exact hlt
 · have e:lexC (m::(l2++[b])) [m']=1:=by
    simp only[lexC]
    rw[if_neg (by omega)]
    split
    · rfl
    · cases hl:l2++[b] with
      | nil=>simp at hl
      | cons a l=>rfl
   rw[e] at h1
   split at h1
   · cases h1
   · split at h1
     · have:=hc.1;omega
     · cases h1
end
end
end Go.Proofs.YtabogkonklplcaaGreatDoor
