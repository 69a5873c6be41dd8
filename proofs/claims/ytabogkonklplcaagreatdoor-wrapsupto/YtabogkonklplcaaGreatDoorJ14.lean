import Derived.Test.YtabogkonklplcaaGreatDoorJ11
import Derived.BigQuiet
import Derived.Test.YtabogkonklplcaaGreatDoorJ09
import Derived.Test.YtabogkonklplcaaGreatDoorJ06
import Derived.Deep.QuietTactic
namespace Go.Proofs.YtabogkonklplcaaGreatDoor
set_option linter.unusedSimpArgs false
set_option linter.unusedVariables false
set_option maxRecDepth 20000
set_option maxHeartbeats 8000000
section
open Go.RowKit
def ZI (x:Nd):Nat:=if x.t=true then x.cs.length else x.ks.length
theorem Yl {x:Nd} (h:x.t=true):ZI x=x.cs.length:=by simp [ZI,h]
theorem Yg {x:Nd} (h:x.t=false):ZI x=x.ks.length:=by simp [ZI,h]
def Zm (s:List Nd) (n t:Nat):Prop:=(∃ m,climb s m n=(t:Int))∧∃ x,s[t]?=some x∧x.p = -1
def Zcm (s:List Nd) (n:Nat) (w:World) (e:Ending) (w':World):Prop:=(∃ t:Nat,e=.returned (.int .i64 t)∧Zm s n t)∧w'=w
def TopInv (s:List Nd) (n:Nat) (w:World) (a:Value) (wr:World):Prop:=wr=w∧∃ (c m:Nat),a=.int .i64 c∧c < s.length∧climb s m n=(c:Int)
section
variable {w:World} {F:Nat→Prop} {bd bn cap:Nat} {rn:List RN} {rv:Value} {s:List Nd} {rs:List Sp}
theorem Zb8 (hD:Zf w F bd bn cap rn rv s rs) (n:Nat) (x:Nd) (hx:s[n]?=some x) :
 Calls Tryz.prog 168 #[.pointer (some ⟨bd,0,none⟩),.int .i64 n] w fun e w'=>e=.returned (.int .i64 (ZI x))∧w'=w:=by
 have hi:n<s.length:=(List.getElem?_eq_some_iff.1 hx).1
 have h0:=hD.nodesCell
 obtain⟨r,hr,ho,c0,c1,c2,c3⟩:=hD.look hx
 obtain⟨sa,sc,hcv⟩:∃ a c,r.cv=.slice a x.cs.length c:=by
  rcases ZB ho.chars with ⟨h1,h2⟩|⟨g,c,h1⟩
  · exact⟨none,0,by rw[h1,h2]⟩
  · exact⟨_,_,h1⟩
 obtain⟨ka,kc,hkv⟩:∃ a c,r.kv=.slice a x.ks.length c:=by
  rcases ZB ho.kids with ⟨h1,h2⟩|⟨g,c,h1⟩
  · exact⟨none,0,by rw[h1,h2]⟩
  · exact⟨_,_,h1⟩
 rw[hcv] at c1
 rw[hkv] at c2
 cases ht:x.t with
 | true =>
   rw[ht] at c0
   rw[Yl ht]
   clear hD c2 c3 hr ho hx hkv hcv ht
   go_enter Tryz.func168,Tryz.ntmps168
   go_wp2
   go_ret
   exact⟨rfl,rfl⟩
 | false =>
   rw[ht] at c0
   rw[Yg ht]
   clear hD c1 c3 hr ho hx hkv hcv ht
   go_enter Tryz.func168,Tryz.ntmps168
   go_wp2
   go_ret
   exact⟨rfl,rfl⟩
theorem Za2 (wf:WF s) (hD:Zf w F bd bn cap rn rv s rs) (n:Nat) (hn:n < s.length) :
 Calls Tryz.prog 128 #[.pointer (some ⟨bd,0,none⟩),.int .i64 n] w (Zcm s n w):=by
 obtain⟨h,B,u⟩:=wf.up
 have h0:=hD.nodesCell
 have HD:=hid hD
 have HW:=hid wf
 have HU:=hid u
 clear hD wf u
 go_enter Tryz.func128,Tryz.ntmps128
 go_wp2
 go_loopw [1] (fun a wr=>TopInv s n w a wr) (fun a _=>Xg h B (intOf a))
 case atStart=>exact⟨rfl,n,0,rfl,hn,rfl⟩
 case round =>
  obtain⟨rfl,c,m,rfl,hc,hm⟩:=hrel
  obtain⟨x,hx⟩:∃ x,s[c]?=some x:=⟨_,List.getElem?_eq_getElem hc⟩
  obtain⟨r,hr,ho,c0,c1,c2,c3⟩:=HD.out.look hx
  have HM:=hid hm
  have HX:=hid hx
  clear c0 c1 c2 hr ho hm hx
  by_cases hp:0≤x.p
  · have hup:=Jq HU.out HX.out
    have hpar:=(HU.out.par c x HX.out hp).1
    have HUP:=hid hup
    clear hup
    go_wp2
    go_roundw
    case rel =>
     obtain⟨q,hq⟩:=Int.eq_ofNat_of_zero_le hp
     refine⟨rfl,q,m+1,by rw[hq],by omega,?_⟩
     rw[Ya HM.out]
     simp[Zw,HX.out,hq]
    case measure=>exact HUP.out
  · have hp':x.p<0:=by omega
    have hp1:x.p = -1:=by
     rcases HW.out.par c x HX.out with e|⟨q,y,e,_⟩
     · exact e
     · omega
    go_wp2
    go_ret
    exact⟨⟨c,rfl,⟨m,HM.out⟩,x,HX.out,hp1⟩,rfl⟩
abbrev pf (w:World) (n k:Int):World:=(w.alloc (.cells #[.int .i64 n,.int .i64 k] 37)).alloc (.cells #[.int .i64 0,.int .i64 0] 32)
theorem YT (w:World) (n k:Int) (q:Nat):Below w.heap.size w ((pf w n k).drewN q):=by
 have h:Below w.heap.size w (pf w n k):=((Below.refl _ w).alloc (Nat.le_refl _) _).alloc (by simp) _
 exact⟨h.os,h.tape,h.output,h.size,h.block⟩
theorem Zf.pf (hD:Zf w F bd bn cap rn rv s rs) (n k:Int):Zf (pf w n k) F bd bn cap rn rv s rs:=hD.below (((Below.refl _ w).alloc (Nat.le_refl _) _).alloc (by simp) _)
theorem Zg1 (hD:Zf w F bd bn cap rn rv s rs) (n k:Int) (hn:isB s n=false) :
 Calls Tryz.prog 127 #[.pointer (some ⟨bd,0,none⟩),.agg #[.int .i64 n,.int .i64 k]] w fun e w'=>e=.returned (Zi n 1)∧Below w.heap.size w w':=by
 have HD:=hid (hD.pf n k)
 clear hD
 go_enter Tryz.func127,Tryz.ntmps127
 go_wp2_with (first
  | (go_at_call 47;refine(ZZ HD.out _).mono ?_;rintro e w' ⟨rfl,rfl⟩)
  | (go_at_call 48;refine(ZK _ _ _).mono ?_;rintro e w' ⟨rfl,rfl⟩))
 go_returns
 refine⟨rfl,?_⟩
 go_grown
theorem Zg0 (hD:Zf w F bd bn cap rn rv s rs) (n:Nat) (k:Int) (x:Nd) (hx:s[n]?=some x) (hk:k < 0∨(ZI x:Int) < k) :
 Calls Tryz.prog 127 #[.pointer (some ⟨bd,0,none⟩),.agg #[.int .i64 n,.int .i64 k]] w fun e w'=>e=.returned (Zi n 3)∧Below w.heap.size w w':=by
 have hi:n<s.length:=(List.getElem?_eq_some_iff.1 hx).1
 have hb:isB s n=true:=ZC (by omega)
 have HD:=hid (hD.pf n k)
 have CS:=hid (fun q=>Zb8 (w:=(pf w n k).drewN q) ((hD.pf n k).keeps (G:=fun _=>False) ⟨rfl,rfl,rfl,Nat.le_refl _,fun _ _ _=>rfl⟩ (fun _ _ e=>e)) n x hx)
 clear hD hx
 by_cases hneg:k<0
 · clear hk CS
   go_enter Tryz.func127,Tryz.ntmps127
   go_wp2_with (go_at_call 47;refine(ZZ HD.out _).mono ?_;rintro e w' ⟨rfl,rfl⟩)
   go_quiet (fail)
   go_wp2_with (go_at_call 48;refine(ZK _ _ _).mono ?_;rintro e w' ⟨rfl,rfl⟩)
   go_returns
   refine⟨rfl,?_⟩
   go_grown
   exact YT _ _ _ _
 · have hk2:(ZI x:Int)<k:=by omega
   have hneg2:decide (k<0)=false:=decide_eq_false hneg
   clear hk
   go_enter Tryz.func127,Tryz.ntmps127
   go_wp2_with (go_at_call 47;refine(ZZ HD.out _).mono ?_;rintro e w' ⟨rfl,rfl⟩)
   go_quiet ((go_at_call 168;exact Calls.quiet_of_same (CS.out _)))
   go_wp2_with (go_at_call 48;refine(ZK _ _ _).mono ?_;rintro e w' ⟨rfl,rfl⟩)
   go_returns
   refine⟨rfl,?_⟩
   go_grown
   exact YT _ _ _ _
theorem Zg2 (hD:Zf w F bd bn cap rn rv s rs) (n k:Nat) (x:Nd) (hx:s[n]?=some x) (hk:k≤ZI x) :
 Calls Tryz.prog 127 #[.pointer (some ⟨bd,0,none⟩),.agg #[.int .i64 n,.int .i64 k]] w fun e w'=>e=.returned (Zi 0 0)∧Below w.heap.size w w':=by
 have hi:n<s.length:=(List.getElem?_eq_some_iff.1 hx).1
 have hb:isB s n=true:=ZC (by omega)
 have HD:=hid (hD.pf n k)
 have CS:=hid (fun q=>Zb8 (w:=(pf w n k).drewN q) ((hD.pf n k).keeps (G:=fun _=>False) ⟨rfl,rfl,rfl,Nat.le_refl _,fun _ _ _=>rfl⟩ (fun _ _ e=>e)) n x hx)
 clear hD hx
 have hk2:¬ (ZI x:Int)<(k:Int):=by omega
 have hneg2:decide ((k:Int)<0)=false:=decide_eq_false (by omega)
 have hk3:decide ((ZI x:Int)<(k:Int))=false:=decide_eq_false hk2
 go_enter Tryz.func127,Tryz.ntmps127
 go_wp2_with (go_at_call 47;refine(ZZ HD.out _).mono ?_;rintro e w' ⟨rfl,rfl⟩)
 go_quiet ((go_at_call 168;exact Calls.quiet_of_same (CS.out _)))
 go_wp2
 go_returns
 refine⟨rfl,?_⟩
 go_grown
 exact YT _ _ _ _
end
end
section
open Go.RowKit
def NewList (w:World) (xs:List Nat) (e:Ending) (w':World):Prop :=
 ∃ a c,e=.returned (.slice a xs.length c)∧w'.ownsRow w.heap.size 3 1 (.slice a xs.length c) xs.length (Zg xs)∧Below w.heap.size w w'
theorem Jn {w:World} {B:Nat} {e:TypeId} {z n:Nat} {v:Value} {xs:List Value} (h:w.ownsRow B e z v n xs):∃ a c,v=.slice a n c:=by
 obtain⟨_,h2⟩:=h
 rcases h2 with ⟨e1,e2⟩|⟨g,c,cur,e1,_⟩
 · exact⟨none,0,by rw[e1,e2]⟩
 · exact⟨_,_,e1⟩
theorem ZbT {w w':World} {B:Nat} {e:TypeId} {z n:Nat} {v:Value} {xs:List Value} (h:w.ownsRow B e z v n xs) (hb:Below w.heap.size w w'):w'.ownsRow B e z v n xs:=by
 obtain⟨h1,h2⟩:=h
 refine⟨h1,?_⟩
 rcases h2 with h2|⟨g,cap,cur,e1,hg,hh,rest⟩
 · exact .inl h2
 · exact .inr ⟨g,cap,cur,e1,hg,(hb.block g (Zc hh)).trans hh,rest⟩
theorem Zb.rowB {F:Nat→Prop} {w w':World} (h:Zb F w w') {B:Nat} {e:TypeId} {z n:Nat} {v:Value} {xs:List Value} (hr:w.ownsRow B e z v n xs) (hv:∀ b,v.ownBlock=some b→¬ F b):w'.ownsRow B e z v n xs:=by
 obtain⟨h1,h2⟩:=hr
 refine⟨h1,?_⟩
 rcases h2 with h2|⟨g,cap,cur,rfl,hg,hh,rest⟩
 · exact .inl h2
 · exact .inr ⟨g,cap,cur,rfl,hg,(h.block g (Zc hh) (hv g rfl)).trans hh,rest⟩
theorem ZhX {w:World} {B:Nat} {e:TypeId} {n:Nat} {a:Option Addr} {c:Nat} {xs:List Value} (h:w.ownsRow B e 1 (.slice a n c) n xs) (hn:0 < n):∃ g,a=some ⟨g,0,none⟩∧∀ j u,xs[j]?=some u→w.cell? ((⟨g,0,none⟩:Addr).add j)=some u:=by
 have h':=h
 obtain⟨h1,h2⟩:=h
 rcases h2 with ⟨e1,e2⟩|⟨g,c',cur,e1,_,hh,_,_,_,ht⟩
 · omega
 · cases e1
   refine⟨g,rfl,fun j u hu=>?_⟩
   have hj:j<xs.length:=(List.getElem?_eq_some_iff.1 hu).1
   rw[Addr.add_lit,Nat.zero_add,Za hh,← Array.getElem?_toList]
   rw[← ht,List.getElem?_take] at hu
   split at hu
   · exact hu
   · cases hu
section
variable {F:Nat→Prop} {bd bn cap:Nat} {rn:List RN} {rv:Value} {s:List Nd} {rs:List Sp}
theorem Zdb (wf:WF s) {h:Nat→Nat} {B:Nat} (u:Up s h B) {k n j:Nat} {x:Nd} (hx:s[n]?=some x):(n::(x.ks.take j).flatMap (allF s k)).length≤40:=by
 have h1:=Yr wf (k+1) n (List.getElem?_eq_some_iff.1 hx).1
 rw[allF,Yp hx] at h1
 have e:x.ks.flatMap (allF s k)=(x.ks.take j).flatMap (allF s k)++(x.ks.drop j).flatMap (allF s k):=by rw[← List.flatMap_append,List.take_append_drop]
 rw[e] at h1
 simp only[List.length_cons,List.length_append] at h1 ⊢
 omega
theorem rall_any (wf:WF s) {h:Nat→Nat} {B:Nat} (u:Up s h B):∀ (k n:Nat),n < s.length→h n < k→∀ w,Zf w F bd bn cap rn rv s rs→Calls Tryz.prog 49 #[.pointer (some ⟨bd,0,none⟩),.int .i64 n] w (NewList w (allF s k n)):=by
 intro k
 induction k with
 | zero=>intro n _ hh;omega
 | succ k ih =>
   intro n hn hh w hD
   obtain⟨i0,hi,hz0,hz1,hz2⟩:=info_parts Tryz.info3
   have hx:s[n]?=some s[n]:=List.getElem?_eq_getElem hn
   generalize s[n]=x at hx
   have HD:=hid hD
   have hlt:=hD.lt
   obtain⟨r,hr,ho,_,_,hc2,_⟩:=hD.look hx
   obtain⟨sa,sc,hkv⟩:=Jn ho.kids
   rw[hkv] at hc2
   have h0:=hD.nodesCell
   have hrow:=ho.kids
   rw[hkv] at hrow
   have HROW:=hid hrow
   have HX:=hid hx
   have HL:=hid (fun j=>Zdb (k:=k) (j:=j) wf u hx)
   have HKID:=hid (fun (c:Nat) (hc:c∈x.ks)=>wf.kid_lt u hx hc)
   have IH:=hid ih
   have hkl:x.ks.length≤40:=Nat.le_trans (Xx s.length _ (wf.nodup n x hx) (fun c hc=>(wf.kid_lt u hx hc).1)) wf.cap
   have hw0:(w.alloc (.cells #[.int .i64 (n:Int)] 3)).ownsRow w.heap.size 3 1 (.slice (some ⟨w.heap.size,0,none⟩) 1 1) 1 [.int .i64 (n:Int)]:=by
    have:=World.ownsRow_lit (base:=w.heap.size) (e:=3) (size:=1) w #[.int .i64 (n:Int)] 1 (Nat.le_refl _) (by decide) rfl
    simpa using this
   have HW0:=hid hw0
   clear hD hr ho hrow hx ih hw0 hkv wf u
   go_enter Tryz.func49,Tryz.ntmps49
   go_wp2
   go_loopw [5,6] (fun a b wr=>∃ (j:Nat) (v:Value),j≤x.ks.length∧b=.int .i64 j∧a=v∧wr.ownsRow w.heap.size 3 1 v (n::(x.ks.take j).flatMap (allF s k)).length (Zg (n::(x.ks.take j).flatMap (allF s k)))∧Below w.heap.size w wr) (fun _ b _=>x.ks.length - (intOf b).toNat)
   case atStart=>exact⟨0,_,Nat.zero_le _,rfl,rfl,by simpa[Zg] using HW0.out,(Below.refl _ w).alloc (Nat.le_refl _) _⟩
   case round =>
    obtain⟨j,v,hj,rfl,rfl,hv,hb⟩:=hrel
    have hrw:=(Zb.of_below (F:=fun _=>False) hb).row HROW.out (fun _ _ e=>e)
    have hDr:=HD.out.below hb
    have d0:=(hb.cell (p:=⟨bd,0,none⟩) hlt.1).trans h0
    have d2:=(hb.cell (p:=⟨bn,n*4+2,none⟩) hlt.2).trans hc2
    by_cases hlt2:j<x.ks.length
    · obtain⟨c,hc⟩:∃ c,x.ks[j]?=some c:=⟨_,List.getElem?_eq_getElem hlt2⟩
      obtain⟨hcl,hch⟩:=HKID.out c (List.mem_of_getElem? hc)
      rcases ZB hrw with ⟨_,hl0⟩|⟨g,cc,hgv⟩
      · omega
      cases hgv
      have cel:wr.cell? ⟨g,j,none⟩=some (.int .i64 (c:Int)):=by
       rw[hrw.cellAt j (by omega)]
       simp[Zg,hc]
      have C:=hid (IH.out c hcl (by omega) wr hDr)
      have hjI:(j:Int)<x.ks.length:=by omega
      have HC:=hid hc
      have HV:=hid hv
      have HB:=hid hb
      have hpos:0<(allF s k c).length:=by
       obtain⟨k',rfl⟩:∃ k',k=k'+1:=⟨k - 1,by omega⟩
       simp[allF]
      have htk:(n::(x.ks.take (j+1)).flatMap (allF s k))=(n::(x.ks.take j).flatMap (allF s k))++allF s k c:=by
       rw[List.take_add_one,hc];simp
      have HTK:=hid htk
      have hll:=HL.out (j+1)
      rw[htk] at hll
      simp only[List.length_append] at hll
      clear hc hv hb hDr hrw htk
      go_wp2_with (first
       | (go_at_call 49;refine C.out.mono ?_;rintro e w2 ⟨a2,c2,rfl,h2,hb2⟩
          obtain⟨g2,rfl,hsrc⟩:=ZhX h2 hpos
          have hv2:=ZbT HV.out hb2
          have H2:=hid h2
          have HB2:=hid (HB.out.trans (hb2.mono HB.out.size))
          clear h2 hb2)
       | (at_builtin;refine wpList_append_own _ rfl _ _ 24 rfl w.heap.size 3 i0 (.int .i64 0) 1 8 Tryz.underlying24 hi hz0 hz1 hz2 rfl (by decide) u5 _ _ rfl hv2 ⟨g2,0,none⟩ (allF s k c).length c2 (Zg (allF s k c)) rfl (by simp) hsrc (JX _) (by unfold maxLen;omega) (by omega) HB2.out.size ?_
          intro v3 w3 ho3 hg3 _
          have HO3:=hid ho3
          have HB3:=hid (HB2.out.grown hg3 HB2.out.size (fun k e=>(hv2.lt k e).1))
          clear ho3 hg3))
      go_roundw
      case rel =>
       refine⟨j+1,v3,by omega,by go_num,rfl,?_,HB3.out⟩
       have e:Zg ((n::(x.ks.take j).flatMap (allF s k))++allF s k c)=Zg (n::(x.ks.take j).flatMap (allF s k))++Zg (allF s k c):=by simp[Zg]
       rw[HTK.out,List.length_append,e]
       exact HO3.out
      case measure=>simp[intOf];omega
    · obtain rfl:j=x.ks.length:=by omega
      have hjI:¬ (x.ks.length:Int)<x.ks.length:=by omega
      have hfin:allF s (k+1) n=n::(x.ks.take x.ks.length).flatMap (allF s k):=by rw[allF,Yp HX.out,List.take_of_length_le (Nat.le_refl _)]
      rw[← hfin] at hv
      obtain⟨L,hLL⟩:∃ L,allF s (k+1) n=L:=⟨_,rfl⟩
      rw[hLL] at hv
      have HLL:=hid hLL
      obtain⟨va,vc,hva⟩:=Jn hv
      subst hva
      clear hfin hLL
      have HV:=hid hv
      have HB:=hid hb
      clear hv hb hDr hrw
      go_wp2
      go_ret
      rw[HLL.out]
      exact⟨va,vc,rfl,HV.out,HB.out⟩
variable {w:World}
theorem Jh {w:World} {B B':Nat} {e:TypeId} {z n:Nat} {v:Value} {xs:List Value} (h:w.ownsRow B e z v n xs) (hB:B'≤B):w.ownsRow B' e z v n xs:=by
 obtain⟨h1,h2⟩:=h
 refine⟨h1,?_⟩
 rcases h2 with h2|⟨g,cap,cur,e1,hg,rest⟩
 · exact .inl h2
 · exact .inr ⟨g,cap,cur,e1,Nat.le_trans hB hg,rest⟩
end
end
section
open Go.RowKit
def plV (l:List (Nat × Nat)):List Value:=l.flatMap fun p=>[.int .i64 p.1,.int .i64 p.2]
@[simp] theorem plV_length (l:List (Nat × Nat)):(plV l).length=2*l.length:=by
 induction l with
 | nil=>rfl
 | cons a l ih=>simp[plV] at ih ⊢;omega
@[simp] theorem plV_append (l m:List (Nat × Nat)):plV (l++m)=plV l++plV m:=by simp[plV]
theorem Jj (l:List (Nat × Nat)) (j:Nat) (p:Nat × Nat) (h:l[j]?=some p):(plV l)[j * 2]?=some (.int .i64 p.1)∧(plV l)[j * 2+1]?=some (.int .i64 p.2):=by
 induction l generalizing j with
 | nil=>simp at h
 | cons a l ih =>
   cases j with
   | zero=>simp at h;subst h;simp[plV]
   | succ j =>
     have:=ih j (by simpa using h)
     have e1:(j+1)*2=j*2+2:=by omega
     have e2:plV (a::l)=.int .i64 a.1::.int .i64 a.2::plV l:=by simp[plV]
     rw[e1,e2]
     simpa using this
theorem plV_one (l:List (Nat × Nat)):∀ u∈plV l,Value.oneCell' u:=by
 intro u hu
 simp only[plV,List.mem_flatMap] at hu
 obtain⟨p,_,h⟩:=hu
 simp at h
 rcases h with rfl|rfl <;> simp[Value.oneCell']
theorem Zj {B:Nat} {a w:World} (h:Below B a w) (n:Nat):Below B a (w.drewN n):=⟨h.os,h.tape,h.output,h.size,h.block⟩
def ZJ (l:List (Nat × Nat)) (p:Nat × Nat) (q:Int):Prop:=(∃ m:Nat,q=m∧l[m]?=some p∧p∉l.take m)∨(q = -1∧p∉l)
def Ze1 (l:List (Nat × Nat)) (p:Nat × Nat) (w:World) (e:Ending) (w':World):Prop:=(∃ q:Int,e=.returned (.int .i64 q)∧ZJ l p q)∧Below w.heap.size w w'
def WhereInv (l:List (Nat × Nat)) (p:Nat × Nat) (w:World) (a:Value) (wr:World):Prop:=Below w.heap.size w wr∧∃ j:Nat,a=.int .i64 j∧j≤l.length∧p∉l.take j
theorem Zi7 (l:List (Nat × Nat)) (v:Value) (n k:Nat) (w:World) (hr:w.ownsRow 0 37 2 v l.length (plV l)) (hbig:l.length < lots) :
 Calls Tryz.prog 133 #[v,.agg #[.int .i64 n,.int .i64 k]] w (Ze1 l (n,k) w):=by
 obtain⟨sa,sc,hv⟩:=Jn hr
 subst hv
 have HR:=hid hr
 have HB:=hid hbig
 clear hr hbig
 go_enter Tryz.func133,Tryz.ntmps133
 go_wp2
 go_loopw [5] (fun a wr=>WhereInv l (n,k) w a wr∧wr.heap[w.heap.size]?=some (.cells #[.int .i64 n,.int .i64 k] 37 (0,0))) (fun a _=>l.length - (intOf a).toNat)
 case atStart=>exact⟨⟨(Below.refl _ w).alloc (Nat.le_refl _) _,0,rfl,Nat.zero_le _,by simp⟩,heap_alloc_new w _⟩
 case round =>
  obtain⟨⟨hb,j,rfl,hj,hno⟩,hq⟩:=hrel
  have hq0:wr.cell? ⟨w.heap.size,0,none⟩=some (.int .i64 n):=Za hq 0
  have hq1:wr.cell? ⟨w.heap.size,1,none⟩=some (.int .i64 k):=Za hq 1
  have hbig:=HB.out
  unfold lots at hbig
  by_cases hlt:j<l.length
  · have hlI:(j:Int)<(l.length:Int):=by omega
    obtain⟨p,hp⟩:∃ p,l[j]?=some p:=⟨_,List.getElem?_eq_getElem hlt⟩
    have hrw:=(Zb.of_below (F:=fun _=>False) hb).row HR.out (fun _ _ e=>e)
    rcases ZB hrw with ⟨_,hl0⟩|⟨g,cc,hgv⟩
    · omega
    cases hgv
    have cel0:wr.cell? ⟨g,j*2,none⟩=some (.int .i64 (p.1:Int)):=by
     rw[hrw.cellAt (j*2) (by omega),(Jj l j p hp).1]
    have cel1:wr.cell? ⟨g,j*2+1,none⟩=some (.int .i64 (p.2:Int)):=by
     rw[hrw.cellAt (j*2+1) (by omega),(Jj l j p hp).2]
    have HB1:=hid hb
    have HQ:=hid hq
    have HNO:=hid hno
    have HP:=hid hp
    clear hb hrw hq hno hp
    obtain⟨p1,p2⟩:=p
    by_cases he:p1=n∧p2=k
    · obtain⟨rfl,rfl⟩:=he
      go_wp2
      go_quiet (fail)
      go_wp2
      go_ret
      exact⟨⟨j,rfl,.inl ⟨j,rfl,HP.out,HNO.out⟩⟩,Zj HB1.out _⟩
    · have hno2:(n,k)∉l.take (j+1):=by
       rw[List.take_add_one,HP.out]
       simp only[Option.toList_some,List.mem_append,List.mem_singleton,Prod.mk.injEq]
       rintro(h1|⟨h1,h2⟩)
       · exact HNO.out h1
       · exact he ⟨h1.symm,h2.symm⟩
      have HNO2:=hid hno2
      clear hno2
      by_cases h1:p1=n
      · subst h1
        have h2:¬ (p2:Int)=k:=fun e=>he ⟨rfl,by omega⟩
        have h3:decide ((p2:Int)=k)=false:=decide_eq_false h2
        go_wp2
        go_quiet (fail)
        go_wp2
        go_roundw
        case rel=>exact⟨⟨Zj HB1.out _,j+1,by go_num,by omega,HNO2.out⟩,HQ.out⟩
        case measure=>simp[intOf];omega
      · have h2:¬ (p1:Int)=n:=fun e=>h1 (by omega)
        have h3:decide ((p1:Int)=n)=false:=decide_eq_false h2
        go_wp2
        go_quiet (fail)
        go_wp2
        go_roundw
        case rel=>exact⟨⟨Zj HB1.out _,j+1,by go_num,by omega,HNO2.out⟩,HQ.out⟩
        case measure=>simp[intOf];omega
  · obtain rfl:j=l.length:=by omega
    have hjI:¬ (l.length:Int)<l.length:=by omega
    rw[List.take_of_length_le (Nat.le_refl _)] at hno
    go_wp2
    go_ret
    exact⟨⟨-1,rfl,.inr ⟨rfl,hno⟩⟩,hb⟩
end
section
open Go.RowKit
def upTo (n:Nat) (ks:List Nat) (f:Nat→List (Nat × Nat)) (m:Nat):List (Nat × Nat) :=
 (List.range m).flatMap fun i=>(n,i)::(match ks[i]? with|some c=>f c|none=>[])
theorem ZeK {n m c:Nat} {ks:List Nat} {f:Nat→List (Nat × Nat)} (h:ks[m]?=some c):upTo n ks f (m+1)=upTo n ks f m++[(n,m)]++f c:=by
 simp[upTo,List.range_succ,h]
theorem ZeJ {n m:Nat} {ks:List Nat} {f:Nat→List (Nat × Nat)} (h:ks[m]?=none):upTo n ks f (m+1)=upTo n ks f m++[(n,m)]:=by
 simp[upTo,List.range_succ,h]
theorem Zcf (n:Nat) (ks:List Nat) (f:Nat→List (Nat × Nat)) (m:Nat):(upTo n ks f m).length=m+((ks.take m).flatMap f).length:=by
 induction m with
 | zero=>rfl
 | succ m ih =>
   rw[List.take_add_one]
   cases h:ks[m]? with
   | none=>rw[ZeJ h];simp[ih];omega
   | some c=>rw[ZeK h];simp[ih];omega
def Zn (s:List Nd) (n:Nat):Nat:=match s[n]? with | some x=>ZI x | none=>0
theorem ZE {s:List Nd} {n:Nat} {x:Nd} (h:s[n]?=some x):Zn s n=ZI x:=by simp [Zn,h]
def plF (s:List Nd):Nat→Nat→List (Nat × Nat)
 | 0,_=>[]
 | k+1,n=>upTo n (ZD s n) (plF s k) (Zn s n+1)
theorem XT {s:List Nd} (wf:WF s) {n:Nat} {x:Nd} (hx:s[n]?=some x):x.ks.length≤40:=by
 obtain⟨h,B,u⟩:=wf.up
 exact Nat.le_trans (Xx s.length _ (wf.nodup n x hx) (fun c hc=>(wf.kid_lt u hx hc).1)) wf.cap
theorem ZaY {s:List Nd} (wf:WF s) {n:Nat} {x:Nd} (hx:s[n]?=some x):ZI x≤40:=by
 unfold ZI
 split
 · have:=(wf.chars n x hx).1;omega
 · exact XT wf hx
theorem Zda {α β γ:Type} (f:α→List β) (g:α→List γ) (c:Nat):∀ l:List α,(∀ a∈l,(f a).length≤c * (g a).length)→(l.flatMap f).length≤c * (l.flatMap g).length:=by
 intro l
 induction l with
 | nil=>intro _;simp
 | cons a l ih =>
   intro h
   have h1:=h a (by simp)
   have h2:=ih (fun b hb=>h b (by simp[hb]))
   simp only[List.flatMap_cons,List.length_append,Nat.mul_add]
   omega
theorem ZaL {s:List Nd} (wf:WF s):∀ (k n:Nat),n < s.length→(plF s k n).length≤41 * (allF s k n).length:=by
 obtain⟨h,B,u⟩:=wf.up
 intro k
 induction k with
 | zero=>intro n _;simp[plF]
 | succ k ih =>
   intro n hn
   have hx:s[n]?=some s[n]:=List.getElem?_eq_getElem hn
   have hs:=ZaY wf hx
   have hl:(((ZD s n).take (Zn s n+1)).flatMap (plF s k)).length≤41*(((ZD s n).take (Zn s n+1)).flatMap (allF s k)).length :=
    Zda _ _ 41 _ (fun c hc=>ih c (by
     have:=List.mem_of_mem_take hc
     rw[Yp hx] at this
     exact(wf.kid_lt u hx this).1))
   have e:(ZD s n).flatMap (allF s k)=((ZD s n).take (Zn s n+1)).flatMap (allF s k)++((ZD s n).drop (Zn s n+1)).flatMap (allF s k):=by rw[← List.flatMap_append,List.take_append_drop]
   rw[plF,Zcf,allF,List.length_cons,e,List.length_append]
   rw[ZE hx] at hl ⊢
   omega
theorem upTo_le {s:List Nd} (wf:WF s) {k n m:Nat} {x:Nd} (hx:s[n]?=some x) (hm:m≤41):(upTo n x.ks (plF s k) m).length≤1640:=by
 obtain⟨h,B,u⟩:=wf.up
 have hl:((x.ks.take m).flatMap (plF s k)).length≤41*((x.ks.take m).flatMap (allF s k)).length :=
  Zda _ _ 41 _ (fun c hc=>ZaL wf k c (wf.kid_lt u hx (List.mem_of_mem_take hc)).1)
 have h2:=Zdb (k:=k) (j:=m) wf u hx
 rw[List.length_cons] at h2
 rw[Zcf]
 omega
def ZeZ (w:World) (xs:List (Nat × Nat)) (e:Ending) (w':World):Prop :=
 ∃ a c,e=.returned (.slice a xs.length c)∧w'.ownsRow w.heap.size 37 2 (.slice a xs.length c) xs.length (plV xs)∧Below w.heap.size w w'
theorem ZhY {w:World} {B:Nat} {e:TypeId} {z n:Nat} {a:Option Addr} {c:Nat} {xs:List Value} (h:w.ownsRow B e z (.slice a n c) n xs) (hn:0 < n):∃ g,a=some ⟨g,0,none⟩∧∀ j u,xs[j]?=some u→w.cell? ((⟨g,0,none⟩:Addr).add j)=some u:=by
 have h':=h
 obtain⟨h1,h2⟩:=h
 rcases h2 with ⟨e1,e2⟩|⟨g,c',cur,e1,_,hh,_,_,_,ht⟩
 · omega
 · cases e1
   refine⟨g,rfl,fun j u hu=>?_⟩
   have hj:j<xs.length:=(List.getElem?_eq_some_iff.1 hu).1
   rw[Addr.add_lit,Nat.zero_add,Za hh,← Array.getElem?_toList]
   rw[← ht,List.getElem?_take] at hu
   split at hu
   · exact hu
   · cases hu
theorem Tryz.info37:(Tryz.prog.info? 37).map (fun i=>(i.zero,i.size,i.bytes))=some (some (.agg #[.int .i64 0,.int .i64 0]),2,16):=by kernel_rfl
section
variable {F:Nat→Prop} {bd bn cap:Nat} {rn:List RN} {rv:Value} {s:List Nd} {rs:List Sp}
theorem ZbZ (wf:WF s) {h:Nat→Nat} {B:Nat} (u:Up s h B):∀ (k n:Nat),n < s.length→h n < k→∀ w,Zf w F bd bn cap rn rv s rs→Calls Tryz.prog 132 #[.pointer (some ⟨bd,0,none⟩),.int .i64 n] w (ZeZ w (plF s k n)):=by
 intro k
 induction k with
 | zero=>intro n _ hh;omega
 | succ k ih =>
   intro n hn hh w hD
   obtain⟨i0,hi,hz0,hz1,hz2⟩:=info_parts Tryz.info37
   have hx:s[n]?=some s[n]:=List.getElem?_eq_getElem hn
   generalize s[n]=x at hx
   have HD:=hid hD
   have hlt:=hD.lt
   obtain⟨r,hr,ho,hc0,_,hc2,_⟩:=hD.look hx
   obtain⟨sa,sc,hkv⟩:=Jn ho.kids
   rw[hkv] at hc2
   have h0:=hD.nodesCell
   have hrow:=ho.kids
   rw[hkv] at hrow
   have HROW:=hid hrow
   have HX:=hid hx
   have HL:=hid (fun m hm=>upTo_le (k:=k) (m:=m) wf hx hm)
   have HKID:=hid (fun (c:Nat) (hc:c∈x.ks)=>wf.kid_lt u hx hc)
   have HEL:=hid (wf.elem n x hx)
   have IH:=hid ih
   have hkl:x.ks.length≤40:=XT wf hx
   have hsl:ZI x≤40:=ZaY wf hx
   clear hD hr ho hrow hx ih hkv wf u
   go_enter Tryz.func132,Tryz.ntmps132
   go_wp2
   go_loopw [5,6] (fun a b wr=>∃ (j:Nat) (v:Value),j≤ZI x+1∧b=.int .i64 j∧a=v∧wr.ownsRow w.heap.size 37 2 v (upTo n x.ks (plF s k) j).length (plV (upTo n x.ks (plF s k) j))∧Below w.heap.size w wr) (fun _ b _=>ZI x+1 - (intOf b).toNat)
   case atStart=>exact⟨0,_,Nat.zero_le _,rfl,rfl,World.ownsRow_nil _ _ _ _,Below.refl _ w⟩
   case round =>
    obtain⟨j,v,hj,rfl,rfl,hv,hb⟩:=hrel
    have hDr:=HD.out.below hb
    have CS:=hid (Zb8 hDr n x HX.out)
    clear hDr
    by_cases hj2:j≤ZI x
    · have hjI:(j:Int)≤(ZI x:Int):=by omega
      have src:∀ (i:Nat) (u:Value),[Value.int .i64 (n:Int),.int .i64 (j:Int)][i]?=some u→(wr.alloc (.cells #[.int .i64 (n:Int),.int .i64 (j:Int)] 37)).cell? ((⟨wr.heap.size,0,none⟩:Addr).add i)=some u:=by
       have:=World.news_of_block (heap_alloc_new wr (.cells #[.int .i64 (n:Int),.int .i64 (j:Int)] 37))
       simpa using this
      have SRC:=hid src
      have hll:=HL.out j (by omega)
      have HV:=hid hv
      have HB:=hid hb
      clear hv hb src
      by_cases hj3:j<x.ks.length
      · obtain⟨c,hc⟩:∃ c,x.ks[j]?=some c:=⟨_,List.getElem?_eq_getElem hj3⟩
        obtain⟨hcl,hch⟩:=HKID.out c (List.mem_of_getElem? hc)
        have ht:x.t=false:=by
         cases e:x.t with
         | false=>rfl
         | true=>have:=HEL.out.1 e;rw[this] at hj3;simp at hj3
        have hj3I:(j:Int)<(x.ks.length:Int):=by omega
        rw[ht] at hc0
        have HUP:=hid (ZeK (n:=n) (f:=plF s k) hc)
        have hll2:=HL.out (j+1) (by omega)
        rw[HUP.out] at hll2
        simp only[List.length_append,List.length_singleton] at hll2
        have hpos:0<(plF s k c).length:=by
         obtain⟨k',rfl⟩:∃ k',k=k'+1:=⟨k - 1,by omega⟩
         rw[plF,Zcf]
         omega
        obtain⟨g,hgv⟩:∃ g,sa=some ⟨g,0,none⟩:=by
         rcases ZB HROW.out with ⟨_,hl0⟩|⟨g,cc,hgv⟩
         · omega
         · cases hgv;exact⟨_,rfl⟩
        subst hgv
        have HC:=hid hc
        have hkc:k > h c:=by omega
        clear hc
        go_wp2_with (first
         | (go_at_call 168;refine CS.out.mono ?_;rintro e w' ⟨rfl,hw'⟩;replace hw':=hw'.symm;subst hw')
         | (at_builtin;refine wpList_append_own _ rfl (.tmp 14) (.tmp 18) 197 rfl w.heap.size 37 i0 (.agg #[.int .i64 0,.int .i64 0]) 2 16 Tryz.underlying197 hi hz0 hz1 hz2 rfl (by decide) u5 _ _ rfl (HV.out.alloc _) ⟨wr.heap.size,0,none⟩ 1 1 [.int .i64 (n:Int),.int .i64 (j:Int)] rfl rfl SRC.out (by simp[Value.oneCell']) (by unfold maxLen;omega) (by omega) (by have:=HB.out.size;simp;omega) ?_
            intro v3 w3 ho3 hg3 _
            have hb3:Below w.heap.size w w3:=(HB.out.alloc HB.out.size _).grown hg3 (by have:=HB.out.size;simp;omega) (fun k e=>(HV.out.lt k e).1)
            have HO3:=hid ho3
            have d0:=(hb3.cell (p:=⟨bd,0,none⟩) hlt.1).trans h0
            have dc0:=(hb3.cell (p:=⟨bn,n*4,none⟩) hlt.2).trans hc0
            have dc2:=(hb3.cell (p:=⟨bn,n*4+2,none⟩) hlt.2).trans hc2
            have hrw:=(Zb.of_below (F:=fun _=>False) hb3).row HROW.out (fun _ _ e=>e)
            have cel:w3.cell? ⟨g,j,none⟩=some (.int .i64 (c:Int)):=by
             rw[hrw.cellAt j (by omega)]
             simp[Zg,HC.out]
            have C:=hid (IH.out c hcl hkc w3 (HD.out.below hb3))
            have HB3:=hid hb3
            clear ho3 hg3 hb3 hrw)
         | (go_at_call 132;refine C.out.mono ?_;rintro e w4 ⟨a4,c4,rfl,h4,hb4⟩
            obtain⟨g4,rfl,hsrc⟩:=ZhY h4 hpos
            have hv4:=ZbT HO3.out hb4
            have HB4:=hid (HB3.out.trans (hb4.mono HB3.out.size))
            have HSRC:=hid hsrc
            clear h4 hb4 hsrc)
         | (at_builtin;refine wpList_append_own _ rfl (.tmp 42) (.tmp 55) 197 rfl w.heap.size 37 i0 (.agg #[.int .i64 0,.int .i64 0]) 2 16 Tryz.underlying197 hi hz0 hz1 hz2 rfl (by decide) v3 _ _ rfl hv4 ⟨g4,0,none⟩ (plF s k c).length c4 (plV (plF s k c)) rfl (by simp;omega) HSRC.out (plV_one _) (by unfold maxLen;omega) (by omega) HB4.out.size ?_
            intro v5 w5 ho5 hg5 _
            have HO5:=hid ho5
            have HB5:=hid (HB4.out.grown hg5 HB4.out.size (fun k e=>(hv4.lt k e).1))
            clear ho5 hg5 hv4))
        go_roundw
        case rel =>
         refine⟨j+1,v5,by omega,by go_num,rfl,?_,HB5.out⟩
         rw[HUP.out]
         have e:plV (upTo n x.ks (plF s k) j++[(n,j)]++plF s k c)=plV (upTo n x.ks (plF s k) j)++[.int .i64 (n:Int),.int .i64 (j:Int)]++plV (plF s k c):=by simp[plV]
         rw[e,List.length_append,List.length_append]
         exact HO5.out
        case measure=>simp[intOf];omega
      · have hj3I:¬ (j:Int)<(x.ks.length:Int):=by omega
        have hnone:x.ks[j]?=none:=List.getElem?_eq_none (by omega)
        have HUP:=hid (ZeJ (n:=n) (f:=plF s k) hnone)
        cases ht:x.t with
        | true =>
          rw[ht] at hc0
          go_wp2_with (first
           | (go_at_call 168;refine CS.out.mono ?_;rintro e w' ⟨rfl,hw'⟩;replace hw':=hw'.symm;subst hw')
           | (at_builtin;refine wpList_append_own _ rfl (.tmp 14) (.tmp 18) 197 rfl w.heap.size 37 i0 (.agg #[.int .i64 0,.int .i64 0]) 2 16 Tryz.underlying197 hi hz0 hz1 hz2 rfl (by decide) u5 _ _ rfl (HV.out.alloc _) ⟨wr.heap.size,0,none⟩ 1 1 [.int .i64 (n:Int),.int .i64 (j:Int)] rfl rfl SRC.out (by simp[Value.oneCell']) (by unfold maxLen;omega) (by omega) (by have:=HB.out.size;simp;omega) ?_
              intro v3 w3 ho3 hg3 _
              have hb3:Below w.heap.size w w3:=(HB.out.alloc HB.out.size _).grown hg3 (by have:=HB.out.size;simp;omega) (fun k e=>(HV.out.lt k e).1)
              have HO3:=hid ho3
              have d0:=(hb3.cell (p:=⟨bd,0,none⟩) hlt.1).trans h0
              have dc0:=(hb3.cell (p:=⟨bn,n*4,none⟩) hlt.2).trans hc0
              have HB3:=hid hb3
              clear ho3 hg3 hb3))
          go_roundw
          case rel =>
           refine⟨j+1,v3,by omega,by go_num,rfl,?_,HB3.out⟩
           rw[HUP.out]
           simpa[plV] using HO3.out
          case measure=>simp[intOf];omega
        | false =>
          rw[ht] at hc0
          go_wp2_with (first
           | (go_at_call 168;refine CS.out.mono ?_;rintro e w' ⟨rfl,hw'⟩;replace hw':=hw'.symm;subst hw')
           | (at_builtin;refine wpList_append_own _ rfl (.tmp 14) (.tmp 18) 197 rfl w.heap.size 37 i0 (.agg #[.int .i64 0,.int .i64 0]) 2 16 Tryz.underlying197 hi hz0 hz1 hz2 rfl (by decide) u5 _ _ rfl (HV.out.alloc _) ⟨wr.heap.size,0,none⟩ 1 1 [.int .i64 (n:Int),.int .i64 (j:Int)] rfl rfl SRC.out (by simp[Value.oneCell']) (by unfold maxLen;omega) (by omega) (by have:=HB.out.size;simp;omega) ?_
              intro v3 w3 ho3 hg3 _
              have hb3:Below w.heap.size w w3:=(HB.out.alloc HB.out.size _).grown hg3 (by have:=HB.out.size;simp;omega) (fun k e=>(HV.out.lt k e).1)
              have HO3:=hid ho3
              have d0:=(hb3.cell (p:=⟨bd,0,none⟩) hlt.1).trans h0
              have dc0:=(hb3.cell (p:=⟨bn,n*4,none⟩) hlt.2).trans hc0
              have dc2:=(hb3.cell (p:=⟨bn,n*4+2,none⟩) hlt.2).trans hc2
              have HB3:=hid hb3
              clear ho3 hg3 hb3))
          go_roundw
          case rel =>
           refine⟨j+1,v3,by omega,by go_num,rfl,?_,HB3.out⟩
           rw[HUP.out]
           simpa[plV] using HO3.out
          case measure=>simp[intOf];omega
    · obtain rfl:j=ZI x+1:=by omega
      have hjI:¬ ((ZI x:Int)+1≤ZI x):=by omega
      have hfin:plF s (k+1) n=upTo n x.ks (plF s k) (ZI x+1):=by rw[plF,Yp HX.out,ZE HX.out]
      rw[← hfin] at hv
      obtain⟨L,hLL⟩:∃ L,plF s (k+1) n=L:=⟨_,rfl⟩
      rw[hLL] at hv
      have HLL:=hid hLL
      obtain⟨va,vc,hva⟩:=Jn hv
      subst hva
      clear hfin hLL
      have HV:=hid hv
      have HB:=hid hb
      clear hv hb
      go_wp2_with (go_at_call 168;refine CS.out.mono ?_;rintro e w' ⟨rfl,rfl⟩)
      go_ret
      rw[HLL.out]
      exact⟨va,vc,rfl,HV.out,HB.out⟩
end
end
end Go.Proofs.YtabogkonklplcaaGreatDoor
