import Derived.Test.YtabogkonklplcaaGreatDoorJ49
import Derived.Test.YtabogkonklplcaaGreatDoorJ50
import Derived.Test.YtabogkonklplcaaGreatDoorJ51
import Derived.Test.YtabogkonklplcaaGreatDoorJ46
import Derived.Test.YtabogkonklplcaaGreatDoorJ47
import Derived.Test.YtabogkonklplcaaGreatDoorJ45
import Derived.Test.YtabogkonklplcaaGreatDoorJ52
namespace Go.Proofs.YtabogkonklplcaaGreatDoor
set_option linter.unusedSimpArgs false
set_option linter.unusedVariables false
set_option maxRecDepth 20000
set_option maxHeartbeats 8000000
section
open Go.RowKit
theorem ZiU (s:List Nd) (wf:WF s) (rs:List Sp) (h6:rs.length≤6) (hrs:∀ z∈rs,SpIs s z) (A:Int):Ans (Z7 SpIs) GG ⟨s,rs⟩ 37 86 [.int .i64 A] (fun v=>v) (fun v=>v):=by
 by_cases hA:A<0∨(rs.length:Int)≤A
 · refine⟨A,8,⟨s,rs⟩,⟨wf,h6,hrs⟩,?_,?_⟩
   · intro w F bx hg hP
     exact Zgu hg hP A hA (JN A)
   · intro w F bd hR
     have hR':=hR
     obtain⟨bn,cap,rn,rv,hD⟩:=hR
     exact(Zhg hD A hA).mono fun e w' ⟨h1,h2⟩=>hR'.unchangedR h2 h1
 · obtain⟨r,rfl⟩:∃ r:Nat,A=(r:Int):=⟨A.toNat,by omega⟩
   obtain⟨x,hx⟩:∃ x,rs[r]?=some x:=⟨_,List.getElem?_eq_getElem (by omega)⟩
   have hspx:=hrs x (List.mem_of_getElem? hx)
   have hsm:Small rs:=Small.of wf (fun z hz=>(hrs z hz).ok)
   obtain⟨h,B,u⟩:=wf.up
   obtain⟨a,b,c,d,t,i,j,S⟩:=Zej wf u hspx
   obtain⟨rfl,ha,hc,ta,tc,hb,hd,hi,hj,hij⟩:=S
   obtain⟨xa,hxa⟩:∃ x,s[a]?=some x:=⟨_,List.getElem?_eq_getElem ha⟩
   obtain⟨xc,hxc⟩:∃ x,s[c]?=some x:=⟨_,List.getElem?_eq_getElem hc⟩
   by_cases hone:a=c∧xa.t=true
   · obtain⟨rfl,hta⟩:=hone
     have hbd:=spIs_le wf hspx
     have hdl:d≤xa.cs.length:=by rw[ZE hxa,Yl hta] at hd;exact hd
     obtain⟨s1,f,hcg,hf⟩:∃ s1 f,Chg s (a,some (b,d)) s1 f∧f=Zl a b ((d - b:Nat):Int) (([]:List ByteArray).length:Int):=⟨_,_,.cut hxa hta hbd hdl,rfl⟩
     have hset:(rs.map (mvSp (Zq [f]))).set r ⟨a,b,a,b⟩=rs.map (mvSp (Zq [f])):=by
      refine set_self ?_
      rw[List.getElem?_map,hx]
      simp only[Option.map_some,Option.some.injEq]
      rw[Zfl,ZcK,hf]
      unfold mvSp Zl Ze
      simp only[id,List.length_nil,true_and]
      by_cases hbd2:b=d
      · subst hbd2
        simp
      · have e1:((b:Int)<(d:Int)∧(d:Int)≤(b:Int)+((d - b:Nat):Int)):=by omega
        have e2:¬ ((b:Int)+((d - b:Nat):Int)<(b:Int)):=by omega
        simp[e1,e2]
     refine⟨0,0,⟨s1,rs.map (mvSp (Zq [f]))⟩,⟨hcg.wf wf,by simpa using h6,?_⟩,?_,?_⟩
     · intro z hz
       obtain⟨z0,hz0,rfl⟩:=List.mem_map.1 hz
       exact(Chgs.cons hcg .nil).lives J6 wf (hrs z0 hz0)
     · intro w F bx hg hP
       have:=ZdD hg hP hsm h6 r _ hx (a:Int) (b:Int) (Zq [f]) (s':=s1) (fun W F' bf hB hP hTb=>Zet hTb hP wf _ (a:Int) (b:Int) _ _ (.cons hcg .nil) (by simp) (fun W' hB'=>by
        obtain⟨bn,cap,pn,h⟩:=hP
        exact Zex wf u (h.below hB') a b a d ha (by simp[allF])) (fun W' hB'=>by
        obtain⟨bn,cap,pn,h⟩:=hP
        exact Zip (h.below hB') a b d xa hxa hta))
       rw[hset] at this
       exact this
     · intro w F bd hR
       obtain⟨bn,cap,rn,rv,hD⟩:=hR
       have:=Zhh wf hD r a b d xa hx hxa hta hcg hbd hdl (fun z hz=>(hrs z hz).ok) h6
       rw[Jg,Xa]
       exact this
   · have hacx:a≠c∨xa.t=false:=by
      by_cases e:a=c
      · right
        cases ht:xa.t with
        | false=>rfl
        | true=>exact absurd ⟨e,ht⟩ hone
      · exact .inl e
     have hac:a≠c∨(s[a]?.map (·.t))=some false:=hacx.imp id (fun h=>by rw[hxa];simp[h])
     obtain⟨s',fs,hcs,hF⟩:=Zfs (B:=B) (t:=t) wf hac hc ha hb hd
     have hcs0:=hcs
     unfold XN at hcs
     obtain⟨s2,f12,f3,h12,h3,rfl⟩:=hcs.split
     obtain⟨s1,f1,f2,h1,h2,rfl⟩:=h12.split
     have hlen:=Zfr (B:=B) (a:=a) (b:=b) (c:=c) (d:=d) wf ta.lt
     -- the joint
     obtain⟨jp,jq,hJP,hJR,hok⟩:∃ jp jq:Int,
      (∀ (w:World) (F:Nat→Prop) (bf bn cap:Nat) (pn:List PN),Zh w F bf bn cap pn s→Calls Tryz.prog 162 #[ptr bf,spV ⟨a,b,c,d⟩] w fun e w'=>e=.returned (.agg #[.int .i64 jp,.int .i64 jq])∧Below w.heap.size w w') ∧
      (∀ (w:World) (F:Nat→Prop) (bd bn cap:Nat) (rn:List RN) (rv:Value),Zf w F bd bn cap rn rv s rs→Calls Tryz.prog 135 #[.pointer (some ⟨bd,0,none⟩),spV ⟨a,b,c,d⟩] w fun e w'=>e=.returned (.agg #[.int .i64 jp,.int .i64 jq])∧Below w.heap.size w w')∧PlOk s' jp jq:=by
      by_cases hca:c∈allF s (B+1) a
      · refine⟨a,b,fun w F bf bn cap pn h=>Zex wf u h a b c d ha hca,fun w F bd bn cap rn rv h=>Zhx wf u h a b c d ha hc hca,?_⟩
        have hel:xa.t=false:=by
         rcases hacx with h|h
         · cases ht:xa.t with
           | false=>rfl
           | true =>
             exfalso
             have hk:ZD s a=[]:=by unfold ZD;rw[hxa];exact(wf.elem a xa hxa).1 ht
             simp[allF,hk] at hca
             exact h hca.symm
         · exact h
        have hfi:YB s a b (xa.ks.take b):=⟨xa,hxa,hel,by rw[ZE hxa,Yg hel] at hb;exact hb,rfl⟩
        exact(hF a b _ hfi (Zc8 wf hxa (fun m n hm hcov=>Zh7 wf u ha ta hb hxa hm hcov))).ok
      · obtain⟨M,hM⟩:=ta.1
        obtain⟨q,n,p,m,xj,yj,hJ⟩:=Zgb wf ha hca M M (Nat.le_refl _) t hM (XU (B+1) t (c,d) (List.mem_of_getElem? hj))
        refine⟨p,(m:Int)+1,fun w F bf bn cap pn h=>ZiB wf u h a b c d ha hca hJ,fun w F bd bn cap rn rv h=>Zhy wf u h a b c d ha hc hca hJ,?_⟩
        obtain⟨hel,hsz⟩:=ZaA wf hJ.hy hJ.hm
        have hfi:YB s p (m+1) (yj.ks.take (m+1)):=⟨yj,hJ.hy,hel,by rw[ZE hJ.hy,Yg hel] at hsz;exact hsz,rfl⟩
        have:=(hF p (m+1) _ hfi (Zc8 wf hJ.hy (fun m' n' hm' hcov=>Zga wf u ha ta hb hJ hm' hcov))).ok
        simpa using this
     have wf':=hcs0.wf wf
     refine⟨0,0,⟨s',(rs.map (mvSp (Zq (f1++f2++f3)))).set r ⟨jp,jq,jp,jq⟩⟩,⟨wf',by simpa using h6,?_⟩,?_,?_⟩
     · intro z hz
       rcases List.mem_or_eq_of_mem_set hz with hz|rfl
       · obtain⟨z0,hz0,rfl⟩:=List.mem_map.1 hz
         exact hcs0.lives J6 wf (hrs z0 hz0)
       · exact Zb9 wf' hok
     · intro w F bx hg hP
       exact ZdD hg hP hsm h6 r _ hx jp jq (Zq (f1++f2++f3)) (fun W F' bf hB hP hTb=>Zet hTb hP wf _ jp jq _ _ hcs0 hlen (fun W' hB'=>by
        obtain⟨bn,cap,pn,h⟩:=hP
        exact hJP W' _ bf bn cap pn (h.below hB')) (fun W' hB'=>by
        obtain⟨bn,cap,pn,h⟩:=hP
        exact Zio wf u (h.below hB') a b c d t xa xc hxa hxc ta tc hb hd hacx))
     · intro w F bd hR
       obtain⟨bn,cap,rn,rv,hD⟩:=hR
       exact Zhf wf u hD r a b c d t i j hx ha hc ta hi hj hac hxa hxc (by rw[← ZE hxa];exact hb) (by rw[← ZE hxc];exact hd) h1 h2 h3 hrs h6 jp jq (fun W hB=>hJR W _ bd bn cap rn rv (hD.below hB))
end
section
open Go.RowKit
theorem answers4:Xh (Z7 SpIs) GG where
 toAnswers3:=answers3 J6
 compare:=fun ⟨s,r⟩ ⟨wf,h6,hr⟩ p0 p1 q0 q1=>ZiT s wf r h6 hr p0 p1 q0 q1
 read:=fun ⟨s,r⟩ ⟨wf,h6,hr⟩ A=>ZiZ s wf r h6 hr A
 delete:=fun ⟨s,r⟩ ⟨wf,h6,hr⟩ A=>ZiU s wf r h6 hr A
end
section
open Go.RowKit
theorem ZfR (W:World) (h:laidMetH Tryz.prog Rows.wrapsUptoRow.laid W):GG W:=ZfQ W h
theorem wraps_holds:Rows.WrapsUptoCardSaid:=Zjd answers4 ZfR
end
end Go.Proofs.YtabogkonklplcaaGreatDoor
