import Derived.Test.YtabogkonklplcaaGreatDoorJ09
import Derived.Test.YtabogkonklplcaaGreatDoorJ03
import Derived.RangeFuncNested
import Derived.RangeFuncBound
import Derived.RangeFuncCalls
import Derived.RangeFuncLeaves
import Derived.ControlIn
namespace Go.Proofs.YtabogkonklplcaaGreatDoor
set_option linter.unusedSimpArgs false
set_option linter.unusedVariables false
set_option maxRecDepth 20000
set_option maxHeartbeats 8000000
section
open Go.RowKit
theorem Jr {s:List Nd} (wf:WF s) (h40:s.length < 40) (x:Nd) (hp:x.p = -1) (hk:x.ks=[]) (he:x.t=false→x.cs=[]) (hc:x.cs.length≤30∧∀ c∈x.cs,IsCh c):WF (s++[x]):=by
 have old:∀ {i:Nat} {y:Nd},(s++[x])[i]?=some y→s[i]?=some y∨(i=s.length∧y=x):=by
  intro i y h
  by_cases hi:i<s.length
  · rw[List.getElem?_append_left hi] at h;exact .inl h
  · rw[List.getElem?_append_right (by omega)] at h
    have h1:=(List.getElem?_eq_some_iff.1 h).1
    simp at h1
    have e:i=s.length:=by omega
    subst e
    simp at h
    exact .inr ⟨rfl,h.symm⟩
 have new:∀ {i:Nat} {y:Nd},s[i]?=some y→(s++[x])[i]?=some y:=by
  intro i y h
  rw[List.getElem?_append_left (List.getElem?_eq_some_iff.1 h).1];exact h
 refine⟨by simp,by simp;omega,?_,?_,?_,?_,?_,?_,?_⟩
 · obtain⟨h,B,u⟩:=wf.up
   refine⟨h,B,u.le,fun i y hy hyp=>?_⟩
   rcases old hy with hy|⟨rfl,rfl⟩
   · have:=u.par i y hy hyp
     exact⟨by simp;omega,this.2⟩
   · rw[hp] at hyp;omega
 · intro i y hy c hc2
   rcases old hy with hy|⟨rfl,rfl⟩
   · obtain⟨z,hz,hzp⟩:=wf.kid i y hy c hc2
     exact⟨z,new hz,hzp⟩
   · rw[hk] at hc2;simp at hc2
 · intro c y hy
   rcases old hy with hy|⟨rfl,rfl⟩
   · rcases wf.par c y hy with h|⟨i,z,h1,h2,h3⟩
     · exact .inl h
     · exact .inr ⟨i,z,h1,new h2,h3⟩
   · exact .inl hp
 · intro i y hy
   rcases old hy with hy|⟨rfl,rfl⟩
   · exact wf.nodup i y hy
   · rw[hk];simp
 · intro y hy
   rcases old hy with hy|⟨h,rfl⟩
   · exact wf.root y hy
   · exact hp
 · intro i y hy
   rcases old hy with hy|⟨rfl,rfl⟩
   · exact wf.elem i y hy
   · exact⟨fun _=>hk,he⟩
 · intro i y hy
   rcases old hy with hy|⟨rfl,rfl⟩
   · exact wf.chars i y hy
   · exact hc
theorem Zb6 {s:List Nd} {i j:Nat} {x y:Nd} (hx:s[i]?=some x) (hy:s[j]?=some y) (hij:i≠j) (ks:List Nat) (p:Int) (c:Nat) :
 ((s.set i { x with ks:=ks }).set j { y with p:=p })[c]?=(s[c]?).map (fun z=>if c=j then { z with p:=p } else if c=i then { z with ks:=ks } else z):=by
 have hi:=(List.getElem?_eq_some_iff.1 hx).1
 have hj:=(List.getElem?_eq_some_iff.1 hy).1
 rw[List.getElem?_set,List.getElem?_set]
 by_cases h1:j=c
 · subst h1
   rw[if_pos rfl,if_pos (by simpa using hj),hy]
   simp
 · rw[if_neg h1]
   by_cases h2:i=c
   · subst h2
     rw[if_pos rfl,if_pos hi,hx]
     have e1:¬ i=j:=hij
     simp[e1]
   · rw[if_neg h2]
     have e1:¬ c=j:=fun e=>h1 e.symm
     have e2:¬ c=i:=fun e=>h2 e.symm
     simp[e1,e2]
theorem Zcj {s:List Nd} {h:Nat→Nat} {B:Nat} (u:Up s h B):∀ (m d e:Nat),d < s.length→climb s m d=(e:Int)→Lim (fun c=>ZT s c (d:Int) (e:Int)) true:=by
 intro m
 induction m with
 | zero =>
   intro d e hd he
   have:d=e:=by simp[climb] at he;omega
   subst this
   exact Za9 s _ (by omega)
 | succ m ih =>
   intro d e hd he
   by_cases hde:(d:Int)=(e:Int)
   · have:d=e:=by omega
     subst this
     exact Za9 s _ (by omega)
   · have hx:s[d]?=some s[d]:=List.getElem?_eq_getElem hd
     generalize s[d]=x at hx
     refine Zba s d x e hx hde ?_
     have e1:climb s 1 d=x.p:=by rw[Ya (j:=0) (e:=d) rfl];simp[Zw,hx]
     by_cases hp:0≤x.p
     · obtain⟨q,hq⟩:=Int.eq_ofNat_of_zero_le hp
       rw[hq] at e1 ⊢
       have e2:=YG e1 m
       rw[Nat.add_comm 1 m,he] at e2
       have:=(u.par d x hx hp).1
       exact ih q e (by omega) e2.symm
     · exfalso
       have hneg:∀ k,climb s (k+1) d<0:=by
        intro k
        induction k with
        | zero=>rw[show (0+1)=1 from rfl,e1];omega
        | succ k ih2=>simp[climb] at ih2 ⊢;omega
       have:=hneg m
       omega
theorem Zcg {s:List Nd} (wf:WF s) {i j k:Nat} {x y:Nd} (h:YI s i j x y) (hw:Lim (fun c=>ZT s c (i:Int) (j:Int)) false) (hk:k≤x.ks.length) :
 i≠j∧WF ((s.set i { x with ks:=x.ks.take k++j::x.ks.drop k }).set j { y with p:=i }):=by
 obtain⟨hx,hy,ht,hj,hyp⟩:=h
 have hil:=(List.getElem?_eq_some_iff.1 hx).1
 have hjl:=(List.getElem?_eq_some_iff.1 hy).1
 have hij:i≠j:=by
  intro e
  subst e
  have:=(Za9 s (i:Int) (by omega)).unique hw
  cases this
 obtain⟨ht0,B,u⟩:=wf.up
 have noanc:∀ m,climb s m i≠(j:Int):=by
  intro m e
  have:=(Zcj u m i j hil e).unique hw
  cases this
 have jnot:j∉x.ks:=by
  intro e
  obtain⟨z,hz,hzp⟩:=wf.kid i x hx j e
  rw[hy] at hz
  cases hz
  omega
 have get:=Zb6 hx hy hij (x.ks.take k++j::x.ks.drop k) (i:Int)
 have mem:∀ c,c∈x.ks.take k++j::x.ks.drop k↔c=j∨c∈x.ks:=by
  intro c
  conv=>rhs;rw[← List.take_append_drop k x.ks]
  simp only[List.mem_append,List.mem_cons]
  constructor
  · rintro(h|h|h) <;> simp[h]
  · rintro(h|h|h) <;> simp[h]
 -- what a node of the new state was
 have was:∀ {c:Nat} {z':Nd},((s.set i { x with ks:=x.ks.take k++j::x.ks.drop k }).set j { y with p:=i })[c]?=some z'→∃ z,s[c]?=some z∧z'.t=z.t∧z'.cs=z.cs∧z'.p=(if c=j then (i:Int) else z.p)∧z'.ks=(if c=i then x.ks.take k++j::x.ks.drop k else z.ks):=by
  intro c z' hz'
  rw[get c] at hz'
  obtain⟨z,hz,rfl⟩:=Option.map_eq_some_iff.1 hz'
  refine⟨z,hz,?_⟩
  by_cases e1:c=j
  · subst e1
    have e2:¬ c=i:=fun e=>hij e.symm
    simp[e2]
  · by_cases e2:c=i
    · subst e2;simp[e1]
    · simp[e1,e2]
 have now:∀ {c:Nat} {z:Nd},s[c]?=some z→∃ z',((s.set i { x with ks:=x.ks.take k++j::x.ks.drop k }).set j { y with p:=i })[c]?=some z'∧z'.p=(if c=j then (i:Int) else z.p)∧z'.ks=(if c=i then x.ks.take k++j::x.ks.drop k else z.ks):=by
  intro c z hz
  refine⟨_,by rw[get c,hz];rfl,?_⟩
  by_cases e1:c=j
  · subst e1
    have e2:¬ c=i:=fun e=>hij e.symm
    simp[e2]
  · by_cases e2:c=i
    · subst e2;simp[e1]
    · simp[e1,e2]
 refine⟨hij,by simpa using wf.pos,by simpa using wf.cap,?_,?_,?_,?_,?_,?_,?_⟩
 · classical
   refine⟨fun d=>if ∃ m,climb s m i=(d:Int) then ht0 d+ht0 j+1 else ht0 d,B+B+1,fun d=>?_,fun d z' hz' hp'=>?_⟩
   · have h1:=u.le d
     have h2:=u.le j
     split <;> omega
   · obtain⟨z,hz,_,_,hzp,_⟩:=was hz'
     have hdl:=(List.getElem?_eq_some_iff.1 hz).1
     by_cases e1:d=j
     · subst e1
       rw[if_pos rfl] at hzp
       rw[hzp]
       refine⟨by simp;omega,?_⟩
       simp only[Int.toNat_natCast]
       rw[if_neg (by rintro⟨m,hm⟩;exact noanc m hm),if_pos ⟨0,rfl⟩]
       omega
     · rw[if_neg e1] at hzp
       rw[hzp] at hp' ⊢
       have hu:=u.par d z hz hp'
       refine⟨by simp;omega,?_⟩
       obtain⟨q,hq⟩:=Int.eq_ofNat_of_zero_le hp'
       rw[hq] at hu ⊢
       simp only[Int.toNat_natCast] at hu ⊢
       by_cases ha:∃ m,climb s m i=(d:Int)
       · obtain⟨m,hm⟩:=ha
         have e2:climb s (m+1) i=(q:Int):=by rw[Ya hm];simp[Zw,hz,hq]
         rw[if_pos ⟨m,hm⟩,if_pos ⟨m+1,e2⟩]
         omega
       · rw[if_neg ha]
         split <;> omega
 · intro a z' hz' c hc
   obtain⟨z,hz,_,_,_,hzk⟩:=was hz'
   rw[hzk] at hc
   by_cases e:a=i
   · subst e
     rw[if_pos rfl,mem] at hc
     rcases hc with rfl|hc
     · obtain⟨z2,h2,hp2,_⟩:=now hy
       exact⟨z2,h2,by rw[hp2,if_pos rfl]⟩
     · obtain⟨z2,h2,hp2⟩:=wf.kid a x hx c hc
       obtain⟨z3,h3,hp3,_⟩:=now h2
       refine⟨z3,h3,?_⟩
       rw[hp3]
       by_cases ec:c=j
       · subst ec;exact absurd hc jnot
       · rw[if_neg ec];exact hp2
   · rw[if_neg e] at hc
     obtain⟨z2,h2,hp2⟩:=wf.kid a z hz c hc
     obtain⟨z3,h3,hp3,_⟩:=now h2
     refine⟨z3,h3,?_⟩
     rw[hp3]
     by_cases ec:c=j
     · subst ec
       rw[hy] at h2
       cases h2
       omega
     · rw[if_neg ec];exact hp2
 · intro c z' hz'
   obtain⟨z,hz,_,_,hzp,_⟩:=was hz'
   by_cases e1:c=j
   · subst e1
     rw[if_pos rfl] at hzp
     obtain⟨z2,h2,_,hk2⟩:=now hx
     rw[if_pos rfl] at hk2
     exact .inr ⟨i,z2,hzp,h2,by rw[hk2,mem];exact .inl rfl⟩
   · rw[if_neg e1] at hzp
     rcases wf.par c z hz with hm|⟨a,z2,h1,h2,h3⟩
     · exact .inl (by rw[hzp];exact hm)
     · obtain⟨z3,h4,_,hk3⟩:=now h2
       refine .inr ⟨a,z3,by rw[hzp];exact h1,h4,?_⟩
       rw[hk3]
       by_cases ea:a=i
       · subst ea
         rw[if_pos rfl,mem]
         rw[hx] at h2
         cases h2
         exact .inr h3
       · rw[if_neg ea];exact h3
 · intro a z' hz'
   obtain⟨z,hz,_,_,_,hzk⟩:=was hz'
   rw[hzk]
   by_cases e:a=i
   · rw[if_pos e]
     have hn:=wf.nodup i x hx
     have e2:x.ks=x.ks.take k++x.ks.drop k:=(List.take_append_drop k x.ks).symm
     rw[e2,List.nodup_append] at hn
     have j1:j∉x.ks.take k:=fun h=>jnot (List.mem_of_mem_take h)
     have j2:j∉x.ks.drop k:=fun h=>jnot (List.mem_of_mem_drop h)
     rw[List.nodup_append,List.nodup_cons]
     refine⟨hn.1,⟨j2,hn.2.1⟩,fun p hp q hq=>?_⟩
     rcases List.mem_cons.1 hq with rfl|hq
     · exact fun e=>j1 (e ▸ hp)
     · exact hn.2.2 p hp q hq
   · rw[if_neg e];exact wf.nodup a z hz
 · intro z' hz'
   obtain⟨z,hz,_,_,hzp,_⟩:=was hz'
   rw[hzp,if_neg (by omega)]
   exact wf.root z hz
 · intro a z' hz'
   obtain⟨z,hz,hzt,hzc,_,hzk⟩:=was hz'
   rw[hzt,hzc,hzk]
   have he:=wf.elem a z hz
   refine⟨fun h=>?_,he.2⟩
   by_cases e:a=i
   · subst e
     rw[hx] at hz
     cases hz
     rw[ht] at h
     cases h
   · rw[if_neg e];exact he.1 h
 · intro a z' hz'
   obtain⟨z,hz,_,hzc,_,_⟩:=was hz'
   rw[hzc]
   exact wf.chars a z hz
theorem Zch {s:List Nd} (wf:WF s) {i j m:Nat} {x y:Nd} (hx:s[i]?=some x) (hxp:x.p=(j:Int)) (hy:s[j]?=some y) (hm:y.ks[m]?=some i) :
 i≠j∧WF ((s.set j { y with ks:=y.ks.take m++y.ks.drop (m+1) }).set i { x with p:=-1 }):=by
 have hil:=(List.getElem?_eq_some_iff.1 hx).1
 have hjl:=(List.getElem?_eq_some_iff.1 hy).1
 have hml:=(List.getElem?_eq_some_iff.1 hm).1
 obtain⟨ht0,B,u⟩:=wf.up
 have hij:j≠i:=by
  intro e
  subst e
  have:=(u.par j x hx (by omega)).2
  rw[hxp] at this
  simp at this
 have hn:=wf.nodup j y hy
 have split:y.ks=y.ks.take m++i::y.ks.drop (m+1):=by
  conv=>lhs;rw[← List.take_append_drop m y.ks]
  rw[List.drop_eq_getElem_cons hml]
  have:y.ks[m]=i:=by rw[List.getElem?_eq_getElem hml] at hm;exact Option.some.inj hm
  rw[this]
 have hn2:=hn
 rw[split,List.nodup_append,List.nodup_cons] at hn2
 have i1:i∉y.ks.take m:=fun h=>hn2.2.2 i h i (by simp) rfl
 have mem:∀ c,c∈y.ks.take m++y.ks.drop (m+1)↔c≠i∧c∈y.ks:=by
  intro c
  constructor
  · intro h
    rw[List.mem_append] at h
    refine⟨?_,?_⟩
    · rintro rfl
      rcases h with h|h
      · exact i1 h
      · exact hn2.2.1.1 h
    · rcases h with h|h
      · exact List.mem_of_mem_take h
      · exact List.mem_of_mem_drop h
  · rintro⟨h1,h2⟩
    rw[split] at h2
    simp only[List.mem_append,List.mem_cons] at h2 ⊢
    rcases h2 with h|h|h
    · exact .inl h
    · exact absurd h h1
    · exact .inr h
 have get:=Zb6 hy hx hij (y.ks.take m++y.ks.drop (m+1)) (-1:Int)
 have was:∀ {c:Nat} {z':Nd},((s.set j { y with ks:=y.ks.take m++y.ks.drop (m+1) }).set i { x with p:=-1 })[c]?=some z'→∃ z,s[c]?=some z∧z'.t=z.t∧z'.cs=z.cs∧z'.p=(if c=i then (-1:Int) else z.p)∧z'.ks=(if c=j then y.ks.take m++y.ks.drop (m+1) else z.ks):=by
  intro c z' hz'
  rw[get c] at hz'
  obtain⟨z,hz,rfl⟩:=Option.map_eq_some_iff.1 hz'
  refine⟨z,hz,?_⟩
  by_cases e1:c=i
  · subst e1
    have e2:¬ c=j:=fun e=>hij e.symm
    simp[e2]
  · by_cases e2:c=j
    · subst e2;simp[e1]
    · simp[e1,e2]
 have now:∀ {c:Nat} {z:Nd},s[c]?=some z→∃ z',((s.set j { y with ks:=y.ks.take m++y.ks.drop (m+1) }).set i { x with p:=-1 })[c]?=some z'∧z'.p=(if c=i then (-1:Int) else z.p)∧z'.ks=(if c=j then y.ks.take m++y.ks.drop (m+1) else z.ks):=by
  intro c z hz
  refine⟨_,by rw[get c,hz];rfl,?_⟩
  by_cases e1:c=i
  · subst e1
    have e2:¬ c=j:=fun e=>hij e.symm
    simp[e2]
  · by_cases e2:c=j
    · subst e2;simp[e1]
    · simp[e1,e2]
 refine⟨fun e=>hij e.symm,by simpa using wf.pos,by simpa using wf.cap,?_,?_,?_,?_,?_,?_,?_⟩
 · refine⟨ht0,B,u.le,fun d z' hz' hp'=>?_⟩
   obtain⟨z,hz,_,_,hzp,_⟩:=was hz'
   by_cases e1:d=i
   · rw[if_pos e1] at hzp;omega
   · rw[if_neg e1] at hzp
     rw[hzp] at hp' ⊢
     have:=u.par d z hz hp'
     exact⟨by simpa using this.1,this.2⟩
 · intro a z' hz' c hc
   obtain⟨z,hz,_,_,_,hzk⟩:=was hz'
   rw[hzk] at hc
   have hc2:c∈z.ks∧c≠i:=by
    by_cases e:a=j
    · subst e
      rw[if_pos rfl,mem] at hc
      rw[hy] at hz
      cases hz
      exact⟨hc.2,hc.1⟩
    · rw[if_neg e] at hc
      refine⟨hc,?_⟩
      rintro rfl
      obtain⟨z2,h2,hp2⟩:=wf.kid a z hz c hc
      rw[hx] at h2
      cases h2
      rw[hxp] at hp2
      exact e (by omega)
   obtain⟨z2,h2,hp2⟩:=wf.kid a z hz c hc2.1
   obtain⟨z3,h3,hp3,_⟩:=now h2
   exact⟨z3,h3,by rw[hp3,if_neg hc2.2];exact hp2⟩
 · intro c z' hz'
   obtain⟨z,hz,_,_,hzp,_⟩:=was hz'
   by_cases e1:c=i
   · rw[if_pos e1] at hzp;exact .inl hzp
   · rw[if_neg e1] at hzp
     rcases wf.par c z hz with hmm|⟨a,z2,h1,h2,h3⟩
     · exact .inl (by rw[hzp];exact hmm)
     · obtain⟨z3,h4,_,hk3⟩:=now h2
       refine .inr ⟨a,z3,by rw[hzp];exact h1,h4,?_⟩
       rw[hk3]
       by_cases ea:a=j
       · subst ea
         rw[if_pos rfl,mem]
         rw[hy] at h2
         cases h2
         exact⟨e1,h3⟩
       · rw[if_neg ea];exact h3
 · intro a z' hz'
   obtain⟨z,hz,_,_,_,hzk⟩:=was hz'
   rw[hzk]
   by_cases e:a=j
   · rw[if_pos e,List.nodup_append]
     exact⟨hn2.1,hn2.2.1.2,fun p hp q hq=>hn2.2.2 p hp q (by simp[hq])⟩
   · rw[if_neg e];exact wf.nodup a z hz
 · intro z' hz'
   obtain⟨z,hz,_,_,hzp,_⟩:=was hz'
   rw[hzp]
   split
   · rfl
   · exact wf.root z hz
 · intro a z' hz'
   obtain⟨z,hz,hzt,hzc,_,hzk⟩:=was hz'
   rw[hzt,hzc,hzk]
   have he:=wf.elem a z hz
   refine⟨fun h=>?_,he.2⟩
   have h1:=he.1 h
   by_cases e:a=j
   · subst e
     rw[hy] at hz
     cases hz
     rw[if_pos rfl,h1];simp
   · rw[if_neg e];exact h1
 · intro a z' hz'
   obtain⟨z,hz,_,hzc,_,_⟩:=was hz'
   rw[hzc]
   exact wf.chars a z hz
theorem WF.place {s:List Nd} (wf:WF s) {i:Nat} {x:Nd} (hx:s[i]?=some x) (hp:0≤x.p):∃ (j m:Nat) (y:Nd),x.p=(j:Int)∧s[j]?=some y∧y.ks[m]?=some i∧i∉y.ks.take m∧y.ks.length≤40:=by
 rcases wf.par i x hx with h|⟨j,y,h1,h2,h3⟩
 · omega
 · obtain⟨m,hm,he⟩:=List.getElem_of_mem h3
   have hm':y.ks[m]?=some i:=by rw[List.getElem?_eq_getElem hm,he]
   obtain⟨ht,B,u⟩:=wf.up
   refine⟨j,m,y,h1,h2,hm',?_,Xx 40 _ (wf.nodup j y h2) (fun c hc=>by have:=(wf.kid_lt u h2 hc).1;have:=wf.cap;omega)⟩
   intro hi
   obtain⟨q,hq,hqe⟩:=List.getElem_of_mem hi
   rw[List.getElem_take] at hqe
   have hq':q<m:=by simp at hq;omega
   have:=(List.nodup_iff_pairwise_ne.1 (wf.nodup j y h2))
   exact absurd (hqe.trans he.symm) (List.pairwise_iff_getElem.1 this q m (by omega) hm hq')
end
section
open Go.RowKit
structure Stp (O O':Nat→Prop) (w w':World):Prop where
 keeps:Zb O w w'
 gains:∀ k,O' k→O k∨w.heap.size≤k
 there:∀ k,O' k→k<w'.heap.size
theorem Stp.refl {O:Nat→Prop} {w:World} (h:∀ k,O k→k < w.heap.size):Stp O O w w:=⟨Zb.refl _ _,fun k h=>.inl h,h⟩
theorem Stp.trans {O1 O2 O3:Nat→Prop} {a b c:World} (h:Stp O1 O2 a b) (k:Stp O2 O3 b c):Stp O1 O3 a c where
 keeps:=h.keeps.trans (k.keeps.mono (fun i _ e=>h.gains i e))
 gains:=fun i e=>(k.gains i e).elim (h.gains i) (fun e=>.inr (Nat.le_trans h.keeps.size e))
 there:=k.there
def Mine (B:Nat) (I:List Nat→(Nat→Prop)→World→Prop):Prop:=∀ pre O w w',I pre O w→Zb (fun k=>¬ O k∧B≤k) w w'→I pre O w'
theorem Mine.later {B B':Nat} {I:List Nat→(Nat→Prop)→World→Prop} (h:Mine B I) (hB:B≤B'):Mine B' I :=
 fun pre O w w' hi hk=>h pre O w w' hi (hk.mono (fun k _ e=>⟨e.1,Nat.le_trans hB e.2⟩))
def encN (x:Nat):Array Value:=#[.int .i64 (x:Int)]
def Zcn (P:Program) (l:Nat) (xs:List Nat) (J Jx:List Nat→(Nat→Prop)→World→Prop):Prop :=
 ∀ (n:Nat) pre x O w,J pre O w→pre++[x] <+: xs→(∀ k,O k→k<w.heap.size)→YieldAt Fence.wide n P l (encN x) w fun e w'=>∃ O',Stp O O' w w' ∧
  ((e=.returned (.bool true)∧J (pre++[x]) O' w')∨(e=.returned (.bool false)∧Jx (pre++[x]) O' w'))
def Jy (P:Program) (gf:Nat) (lb:Array Value) (xs:List Nat) (w:World) (O:Nat→Prop):Prop :=
 ∀ (l:Nat) (J Jx:List Nat→(Nat→Prop)→World→Prop) (O1:Nat→Prop) (w1:World),Below w.heap.size w w1→(∀ k,O1 k→O k∨w.heap.size≤k)→(∀ k,O1 k→k<w1.heap.size)→Mine w1.heap.size J→Mine w1.heap.size Jx→Zcn P l xs J Jx→J [] O1 w1 →
  Calls P gf (#[.func (.yield l) #[] #[]]++lb) w1 fun e w'=>(∃ v,e=.returned v)∧∃ O',Stp O1 O' w1 w'∧(J xs O' w'∨∃ pre,pre <+: xs∧Jx pre O' w')
def minePost (I Ix:List Nat→(Nat→Prop)→World→Prop) (O:Nat→Prop) (xs:List Nat) (W:World):Exit→Act→World→Prop
 | .normal,_,W'=>∃ O',Stp O O' W W'∧I xs O' W'
 | .ret,_,W'=>∃ O',Stp O O' W W'∧Ix xs O' W'
 | .exit _,_,_=>False
 | .goto _,_,_=>False
 | .panic _,_,_=>False
 | .outgrown,_,_=>False
def anyPost (I:List Nat→(Nat→Prop)→World→Prop) (Ix:Code→List Nat→(Nat→Prop)→World→Prop) (O:Nat→Prop) (xs:List Nat) (W:World):Exit→Act→World→Prop
 | .normal,_,W'=>∃ O',Stp O O' W W'∧I xs O' W'
 | .ret,_,W'=>∃ O',Stp O O' W W'∧Ix .ret xs O' W'
 | .exit id,_,W'=>∃ O',Stp O O' W W'∧Ix (.exit id) xs O' W'
 | .goto _,_,_=>False
 | .panic _,_,_=>False
 | .outgrown,_,_=>False
theorem Y3 {F:Nat→Prop} {a w:World} (h:Zb F a w) {l:Nat} (hl:F l∨a.heap.size≤l) (o:Obj):Zb F a (w.putObj l o) :=
 h.trans ⟨rfl,rfl,rfl,by simp,fun k hk hF=>World.putObj_heap_other (fun e=>hF (e ▸ hl))⟩
theorem Zg7 {P:Program} {n:Nat} {g:Operand} {ps:Array Tmp} {assign body:Code} {Q:Exit→Act→World→Prop} {a:Act} {w:World} {gf:Nat} {lb:Array Value}
 (hg:a.eval g=.func (.func gf) #[] lb) (eg:∀ args w,(callFunc gf args).run P w=.ok (.enter gf args) w) (hps:ps.size=1)
 {xs:List Nat} {O:Nat→Prop} (hO:∀ k,O k→k<w.heap.size) (hseq:Jy P gf lb xs w O)
 (I:List Nat→(Nat→Prop)→World→Prop) (Ix:Code→List Nat→(Nat→Prop)→World→Prop) (mI:Mine w.heap.size I) (mIx:∀ c,Mine w.heap.size (Ix c)) (h0:I [] O w) (a₁:Nat→Act)
 (hassign:∀ (m l x:Nat) (W:World) (K:Act→World→Prop),K (a₁ x) W→assign.wpIn (Fence.wide.inRound l) m P (Exit.then K (fun _ _ _=>False)) { tmps:=(ps.zip (encN x)).foldl (fun t (p,v)=>t.setIfInBounds p v) a.tmps,defers:=[] } W)
 (hbody:∀ (m l:Nat) pre x O W,pre++[x] <+: xs→(∀ k,O k→k<W.heap.size)→I pre O W→body.wpIn (Fence.wide.inRound l) m P (anyPost I Ix O (pre++[x]) W) (a₁ x) W)
 (hdone:∀ O' W,Stp O O' w W→¬ O' w.heap.size→I xs O' W→W.heap[w.heap.size]?=some (.deferred (some []))→Q .normal { a with defers:={ target:=.collected w.heap.size,args:=#[] }::a.defers } W)
 (hstop:∀ (c:Code) O' pre W,pre <+: xs→Stp O O' w W→¬ O' w.heap.size→Ix c pre O' W→W.heap[w.heap.size]?=some (.deferred (some []))→c.wpIn Fence.wide n P Q { a with defers:={ target:=.collected w.heap.size,args:=#[] }::a.defers } W) :
 (Code.rangeFunc g ps assign body).wpIn Fence.wide n P Q a w:=by
 refine wpIn_rangeFunc ?_
 intro fn hfn
 obtain⟨rec,hrec⟩:∃ rec:LoopState→Option Code→Loop,rec=fun st pe=>{ state:=st,pending:=pe,fn,tmps:=a.tmps,params:=ps,assign,body,defers:=w.heap.size }:=⟨_,rfl⟩
 obtain⟨l,hl⟩:∃ l,l=w.heap.size+1:=⟨_,rfl⟩
 obtain⟨W1,hW1⟩:∃ W1,(w.alloc (.deferred (some []))).alloc (.loop (rec .ready none))=W1:=⟨_,rfl⟩
 have hs1:W1.heap.size=w.heap.size+2:=by rw[← hW1];simp
 have hL1:W1.heap[l]?=some (.loop (rec .ready none)):=by
  rw[← hW1,hl];have:=World.alloc_heap_new (w.alloc (.deferred (some []))) (.loop (rec .ready none));rwa [World.size_alloc] at this
 have hK1:W1.heap[w.heap.size]?=some (.deferred (some [])):=by
  rw[← hW1];exact(Below.heap_alloc _ _ _ (by simp)).trans (World.alloc_heap_new w _)
 have hb1:Below w.heap.size w W1:=by rw[← hW1];exact((Below.refl _ w).alloc (Nat.le_refl _) _).alloc (by simp) _
 have hOl:¬ O l:=fun e=>by have:=hO l e;omega
 refine⟨l,[{ target:=.collected w.heap.size,args:=#[] }],W1,{ target:=.fn (.func gf) lb,args:=#[.func (.yield l) #[] #[]] },W1,gf,#[.func (.yield l) #[] #[]]++lb,W1,?_,?_,fun _ _=>trivial,?_,?_,?_⟩
 · rw[← hW1,hrec,hl];exact run_enterLoop_outer _ _ _ _ _
 · simp only[resolve,hg]
   simp[go_sem]
 · simp[invoke,go_sem,eg]
 · intro h;simp[Fence.wide] at h
 have hI1:I [] O W1:=mI [] O w W1 h0 (Zb.of_below hb1)
 obtain⟨J,hJ⟩:∃ J:List Nat→(Nat→Prop)→World→Prop,J=fun pre O' W=>∃ O2:Nat→Prop,(O'=fun k=>O2 k∨k=l)∧¬ O2 l∧I pre O2 W∧W.heap[l]?=some (.loop (rec .ready none)):=⟨_,rfl⟩
 obtain⟨Jx,hJx⟩:∃ J:List Nat→(Nat→Prop)→World→Prop,J=fun pre O' W=>∃ (c:Code) (O2:Nat→Prop),(O'=fun k=>O2 k∨k=l)∧¬ O2 l∧Ix c pre O2 W∧W.heap[l]?=some (.loop (rec .done (some c))):=⟨_,rfl⟩
 have mJ:Mine W1.heap.size J:=by
  rintro pre O' X Y hj hk
  rw[hJ] at hj ⊢
  obtain⟨O2,rfl,h1,h2,h3⟩:=hj
  exact⟨O2,rfl,h1,mI pre O2 X Y h2 (hk.mono (fun k _ e=>⟨fun h=>e.1 (.inl h),by omega⟩)),(hk.block l (Zc h3) (fun e=>e.1 (.inr rfl))).trans h3⟩
 have mJx:Mine W1.heap.size Jx:=by
  rintro pre O' X Y hj hk
  rw[hJx] at hj ⊢
  obtain⟨c,O2,rfl,h1,h2,h3⟩:=hj
  exact⟨c,O2,rfl,h1,mIx c pre O2 X Y h2 (hk.mono (fun k _ e=>⟨fun h=>e.1 (.inl h),by omega⟩)),(hk.block l (Zc h3) (fun e=>e.1 (.inr rfl))).trans h3⟩
 have hY:Zcn P l xs J Jx:=by
  intro m pre x O' W hj hpre hO'
  rw[hJ] at hj
  obtain⟨O2,rfl,h1,h2,h3⟩:=hj
  have hlt:=Zc h3
  have hy:=run_yield (P:=P) (args:=encN x) h3 (by rw[hrec];exact hps.symm)
  rw[hrec] at hy
  refine⟨fn,_,assign,body,hy,roundIn_of_wpIn trivial (hassign m l x W _ ?_)⟩
  clear hy
  refine⟨_,run_beginRound h3 (by rw[hrec]),?_⟩
  obtain⟨Wb,hWb⟩:∃ Wb,W.putObj l (.loop { rec .ready none with state:=.busy })=Wb:=⟨_,rfl⟩
  rw[hWb]
  have hszb:Wb.heap.size=W.heap.size:=by rw[← hWb];simp
  have hlb:Wb.heap[l]?=some (.loop { rec .ready none with state:=.busy }):=by rw[← hWb];exact World.putObj_heap_same hlt
  have hIb:I pre O2 Wb:=mI pre O2 W Wb h2 (by rw[← hWb];exact Y3 (Zb.refl _ _) (.inl ⟨h1,by omega⟩) _)
  have hkb:Zb (fun k=>O2 k∨k=l) W Wb:=by rw[← hWb];exact Y3 (Zb.refl _ _) (.inl (.inr rfl)) _
  have fin:∀ (jump:Option Code) (O3:Nat→Prop) (W3:World),Stp O2 O3 Wb W3 →
   (Instr.endRound l jump).run P W3=.ok (.bool jump.isNone) (W3.putObj l (.loop (rec (if jump.isNone then .ready else .done) jump)))∧¬ O3 l∧l<W3.heap.size ∧
   (W3.putObj l (.loop (rec (if jump.isNone then .ready else .done) jump))).heap[l]?=some (.loop (rec (if jump.isNone then .ready else .done) jump)) ∧
   Stp (fun k=>O2 k∨k=l) (fun k=>O3 k∨k=l) W (W3.putObj l (.loop (rec (if jump.isNone then .ready else .done) jump))):=by
   intro jump O3 W3 hs
   have hl3:=(hs.keeps.block l (by omega) h1).trans hlb
   have hn3:¬ O3 l:=fun e=>(hs.gains l e).elim h1 (fun e=>by omega)
   have he:=run_endRound (P:=P) jump hl3
   rw[hrec] at he ⊢
   refine⟨he,hn3,Zc hl3,World.putObj_heap_same (Zc hl3),?_,?_,?_⟩
   · exact Y3 (hkb.trans (hs.keeps.mono (fun k _ e=>.inl (.inl e)))) (.inl (.inr rfl)) _
   · rintro k (e|e)
     · rcases hs.gains k e with e|e
       · exact .inl (.inl e)
       · exact .inr (by omega)
     · exact .inl (.inr e)
   · rintro k (e|e)
     · have:=hs.there k e
       simpa using this
     · have:=Zc hl3
       simp;omega
  refine wpIn_mono (hbody m l pre x O2 Wb hpre (fun k hk=>by rw[hszb];exact hO' k (.inl hk)) hIb) ?_
  rintro e a3 W3 hp
  cases e with
  | normal =>
    obtain⟨O3,hs,hi⟩:=hp
    obtain⟨hr,hn3,hlt3,hl4,hs4⟩:=fin none O3 W3 hs
    refine⟨_,_,hr,_,hs4,.inl ⟨rfl,?_⟩⟩
    rw[hJ]
    exact⟨O3,rfl,hn3,mI _ O3 W3 _ hi (Y3 (Zb.refl _ _) (.inl ⟨hn3,by omega⟩) _),hl4⟩
  | ret =>
    obtain⟨O3,hs,hi⟩:=hp
    obtain⟨hr,hn3,hlt3,hl4,hs4⟩:=fin (some .ret) O3 W3 hs
    refine⟨_,_,hr,_,hs4,.inr ⟨rfl,?_⟩⟩
    rw[hJx]
    exact⟨.ret,O3,rfl,hn3,mIx _ _ O3 W3 _ hi (Y3 (Zb.refl _ _) (.inl ⟨hn3,by omega⟩) _),hl4⟩
  | exit id =>
    obtain⟨O3,hs,hi⟩:=hp
    obtain⟨hr,hn3,hlt3,hl4,hs4⟩:=fin (some (.exit id)) O3 W3 hs
    refine⟨_,_,hr,_,hs4,.inr ⟨rfl,?_⟩⟩
    rw[hJx]
    exact⟨.exit id,O3,rfl,hn3,mIx _ _ O3 W3 _ hi (Y3 (Zb.refl _ _) (.inl ⟨hn3,by omega⟩) _),hl4⟩
  | goto t=>exact hp.elim
  | panic ch=>exact hp.elim
  | outgrown=>exact hp.elim
 refine(callsIn_wide.2 (hseq l J Jx (fun k=>O k∨k=l) W1 hb1 ?_ ?_ mJ mJx hY ?_)).mono ?_
 · rintro k (e|e)
   · exact .inl e
   · exact .inr (by omega)
 · rintro k (e|e)
   · have:=hO k e;omega
   · omega
 · rw[hJ];exact⟨O,rfl,hOl,hI1,hL1⟩
 · rintro e W2 ⟨⟨v,rfl⟩,O',hs,hh⟩
   have hD:W2.heap[w.heap.size]?=some (.deferred (some [])):=(hs.keeps.block _ (by omega) (fun e=>e.elim (fun e=>by have:=hO _ e;omega) (fun e=>by omega))).trans hK1
   have hk2:Zb O w W2:=(Zb.of_below hb1).trans (hs.keeps.mono (fun k _ e=>e.elim .inl (fun e=>.inr (by omega))))
   have step:∀ (O2:Nat→Prop) (o:Obj),(O'=fun k=>O2 k∨k=l)→Stp O O2 w (W2.putObj l o):=by
    rintro O2 o rfl
    refine⟨Y3 hk2 (.inr (by omega)) _,fun k e=>?_,fun k e=>?_⟩
    · rcases hs.gains k (.inl e) with (e|e)|e
      · exact .inl e
      · exact .inr (by omega)
      · exact .inr (by omega)
    · have:=hs.there k (.inl e)
      simpa using this
   have nd:∀ (O2:Nat→Prop),(O'=fun k=>O2 k∨k=l)→¬ O2 w.heap.size:=by
    rintro O2 rfl e
    rcases hs.gains _ (.inl e) with (e|e)|e
    · have:=hO _ e;omega
    · omega
    · omega
   rcases hh with hj|⟨pre,hpre,hj⟩
   · rw[hJ] at hj
     obtain⟨O2,he,h1,h2,h3⟩:=hj
     refine⟨none,_,by have:=run_endLoop (P:=P) h3 (by rw[hrec];simp);rw[hrec] at this;exact this,hdone O2 _ (step O2 _ he) (nd O2 he) (mI _ O2 W2 _ h2 (Y3 (Zb.refl _ _) (.inl ⟨h1,by omega⟩) _)) ((World.putObj_heap_other (by omega)).trans hD)⟩
   · rw[hJx] at hj
     obtain⟨c,O2,he,h1,h2,h3⟩:=hj
     refine⟨some c,_,by have:=run_endLoop (P:=P) h3 (by rw[hrec];simp);rw[hrec] at this;exact this,hstop c O2 pre _ hpre (step O2 _ he) (nd O2 he) (mIx _ _ O2 W2 _ h2 (Y3 (Zb.refl _ _) (.inl ⟨h1,by omega⟩) _)) ((World.putObj_heap_other (by omega)).trans hD)⟩
theorem J4 {P:Program} {n:Nat} {g:Operand} {ps:Array Tmp} {assign body:Code} {Q:Exit→Act→World→Prop} {a:Act} {w:World} {gf:Nat} {lb:Array Value}
 (hg:a.eval g=.func (.func gf) #[] lb) (eg:∀ args w,(callFunc gf args).run P w=.ok (.enter gf args) w) (hps:ps.size=1)
 {xs:List Nat} {O:Nat→Prop} (hO:∀ k,O k→k<w.heap.size) (hseq:Jy P gf lb xs w O)
 (I Ix:List Nat→(Nat→Prop)→World→Prop) (mI:Mine w.heap.size I) (mIx:Mine w.heap.size Ix) (h0:I [] O w) (a₁:Nat→Act)
 (hassign:∀ (m l x:Nat) (W:World) (K:Act→World→Prop),K (a₁ x) W→assign.wpIn (Fence.wide.inRound l) m P (Exit.then K (fun _ _ _=>False)) { tmps:=(ps.zip (encN x)).foldl (fun t (p,v)=>t.setIfInBounds p v) a.tmps,defers:=[] } W)
 (hbody:∀ (m l:Nat) pre x O W,pre++[x] <+: xs→(∀ k,O k→k<W.heap.size)→I pre O W→body.wpIn (Fence.wide.inRound l) m P (minePost I Ix O (pre++[x]) W) (a₁ x) W)
 (hdone:∀ O' W,Stp O O' w W→¬ O' w.heap.size→I xs O' W→W.heap[w.heap.size]?=some (.deferred (some []))→Q .normal { a with defers:={ target:=.collected w.heap.size,args:=#[] }::a.defers } W)
 (hstop:∀ O' pre W,pre <+: xs→Stp O O' w W→¬ O' w.heap.size→Ix pre O' W→W.heap[w.heap.size]?=some (.deferred (some []))→Code.ret.wpIn Fence.wide n P Q { a with defers:={ target:=.collected w.heap.size,args:=#[] }::a.defers } W) :
 (Code.rangeFunc g ps assign body).wpIn Fence.wide n P Q a w:=by
 refine Zg7 hg eg hps hO hseq I (fun c pre O W=>c=.ret∧Ix pre O W) mI (fun c pre O w w' h hk=>⟨h.1,mIx pre O w w' h.2 hk⟩) h0 a₁ hassign ?_ hdone ?_
 · intro m l pre x O W hpre hO hi
   refine wpIn_mono (hbody m l pre x O W hpre hO hi) ?_
   intro e a' W' hp
   cases e with
   | normal=>exact hp
   | ret=>obtain⟨O',hs,hx⟩:=hp;exact⟨O',hs,rfl,hx⟩
   | exit id=>exact hp.elim
   | goto t=>exact hp.elim
   | panic ch=>exact hp.elim
   | outgrown=>exact hp.elim
 · rintro c O' pre W hpre hs hn ⟨rfl,hx⟩ hD
   exact hstop O' pre W hpre hs hn hx hD
theorem XW {O0 O:Nat→Prop} {B:Nat} {w0 W W':World} (hB:w0.heap.size≤B) (h:Stp O0 O w0 W) (hk:Zb (fun k=>¬ O k∧B≤k) W W'):Stp O0 O w0 W' :=
 ⟨h.keeps.trans (hk.mono (fun k _ e=>.inr (by have:=e.2;omega))),h.gains,fun k e=>Nat.lt_of_lt_of_le (h.there k e) hk.size⟩
theorem Stp.alloc {O:Nat→Prop} {w:World} (h:∀ k,O k→k < w.heap.size) (o:Obj):Stp O O w (w.alloc o):=⟨(Zb.refl _ _).alloc _,fun k e=>.inl e,fun k e=>by have:=h k e;simp;omega⟩
theorem Stp.drew {O O':Nat→Prop} {w w':World} (h:Stp O O' w w'):Stp O O' w w'.drew:=⟨h.keeps.drew,h.gains,h.there⟩
def mark (D:Nat):Deferred:={ target:=.collected D,args:=#[] }
theorem Y9 {n:Nat} {P:Program} {fn:Func} {tmps:Array Value} {R:Ending→World→Prop}:∀ (ds:List Nat) (w:World),ds.Nodup→(∀ D∈ds,w.heap[D]?=some (.deferred (some []))) →
 (∀ w',Zb (fun k=>k∈ds) w w'→∃ v,(results fn tmps).run P w'=.ok v w'∧R (.returned v) w')→LeavesInM Fence.wide n P fn tmps R (ds.map mark) .returning w
 | [],w,_,_,h=>h w (Zb.refl _ _)
 | D::ds,w,hn,hd,h=>by
   refine⟨by simp,.inl ⟨D,_,rfl,run_takeDeferred (hd D (by simp)),?_⟩⟩
   have hn':=List.nodup_cons.1 hn
   refine Y9 ds _ hn'.2 (fun D' h'=>?_) (fun w' hk=>h w' ?_)
   · refine(World.putObj_heap_other ?_).trans (hd D' (by simp[h']))
     rintro rfl
     exact hn'.1 h'
   · exact(Y3 (Zb.refl _ _) (.inl (by simp)) _).trans (hk.mono (fun k _ e=>.inl (by simp[e])))
theorem Jf {O1 O':Nat→Prop} {w1 wr w':World} {ds:List Nat} (st:Stp O1 O' w1 wr) (hds:∀ D∈ds,w1.heap.size≤D∧¬ O' D) (hk:Zb (fun k=>k∈ds) wr w') :
 Stp O1 O' w1 w'∧Zb (fun k=>¬ O' k∧w1.heap.size≤k) wr w' :=
 ⟨⟨st.keeps.trans (hk.mono (fun k _ e=>.inr (hds k e).1)),st.gains,fun k e=>Nat.lt_of_lt_of_le (st.there k e) hk.size⟩,hk.mono (fun k _ e=>⟨(hds k e).2,(hds k e).1⟩)⟩
end
section
open Go.RowKit
abbrev Zi (a y:Int):Value:=.agg #[.int .i64 a,.int .i64 y]
theorem Zy (a y:Int) (w:World):Calls Tryz.prog 124 #[Zi a y] w fun e w'=>e=.returned (.bool (y == 0))∧Below w.heap.size w w':=by
 go_enter Tryz.func124,Tryz.ntmps124
 go_wp2
 go_ret
 exact⟨rfl,(Below.refl _ w).alloc (Nat.le_refl _) _⟩
section
variable {w:World} {F:Nat→Prop} {bd bn cap:Nat} {rn:List RN} {rv:Value} {s:List Nd} {rs:List Sp}
theorem Zew (hD:Zf w F bd bn cap rn rv s rs) (n k:Int) (hn:isB s n=false) :
 Calls Tryz.prog 123 #[.pointer (some ⟨bd,0,none⟩),.int .i64 n,.int .i64 k] w fun e w'=>e=.returned (Zi n 1)∧Below w.heap.size w w':=by
 have HD:=hid hD.faultAt
 clear hD
 go_enter Tryz.func123,Tryz.ntmps123
 go_wp2_with (first
  | (go_at_call 47;refine(ZZ HD.out _).mono ?_;rintro e w' ⟨rfl,rfl⟩)
  | (go_at_call 48;refine(ZK _ _ _).mono ?_;rintro e w' ⟨rfl,rfl⟩))
 go_returns
 refine⟨rfl,?_⟩
 go_grown
theorem Zev (hD:Zf w F bd bn cap rn rv s rs) (n:Nat) (k:Int) (x:Nd) (hx:s[n]?=some x) (ht:x.t=false) :
 Calls Tryz.prog 123 #[.pointer (some ⟨bd,0,none⟩),.int .i64 n,.int .i64 k] w fun e w'=>e=.returned (Zi n 2)∧Below w.heap.size w w':=by
 have hi:n<s.length:=(List.getElem?_eq_some_iff.1 hx).1
 have hb:isB s n=true:=ZC (by omega)
 have HD:=hid hD.faultAt
 have h0:=hD.faultAt.nodesCell
 obtain⟨r,hr,ho,c0,c1,c2,c3⟩:=hD.faultAt.look hx
 rw[ht] at c0
 clear hD c1 c2 c3 hr ho hx
 go_enter Tryz.func123,Tryz.ntmps123
 go_wp2_with (first
  | (go_at_call 47;refine(ZZ HD.out _).mono ?_;rintro e w' ⟨rfl,rfl⟩)
  | (go_at_call 48;refine(ZK _ _ _).mono ?_;rintro e w' ⟨rfl,rfl⟩))
 go_returns
 refine⟨rfl,?_⟩
 go_grown
theorem Zeu (hD:Zf w F bd bn cap rn rv s rs) (n:Nat) (k:Int) (x:Nd) (hx:s[n]?=some x) (ht:x.t=true) (hk:k < 0∨(x.cs.length:Int) < k) :
 Calls Tryz.prog 123 #[.pointer (some ⟨bd,0,none⟩),.int .i64 n,.int .i64 k] w fun e w'=>e=.returned (Zi n 3)∧Below w.heap.size w w':=by
 have hi:n<s.length:=(List.getElem?_eq_some_iff.1 hx).1
 have hb:isB s n=true:=ZC (by omega)
 have HD:=hid hD.faultAt
 have h0:=hD.faultAt.nodesCell
 obtain⟨r,hr,ho,c0,c1,c2,c3⟩:=hD.faultAt.look hx
 rw[ht] at c0
 obtain⟨sa,sc,hkv⟩:∃ a c,r.cv=.slice a x.cs.length c:=by
  rcases ZB ho.chars with ⟨h1,h2⟩|⟨g,c,h1⟩
  · exact⟨none,0,by rw[h1,h2]⟩
  · exact⟨_,_,h1⟩
 rw[hkv] at c1
 clear hD c2 c3 hr ho hx hkv
 by_cases hneg:k<0
 · clear hk c1
   go_enter Tryz.func123,Tryz.ntmps123
   go_wp2_with (first
    | (go_at_call 47;refine(ZZ HD.out _).mono ?_;rintro e w' ⟨rfl,rfl⟩)
    | (go_at_call 48;refine(ZK _ _ _).mono ?_;rintro e w' ⟨rfl,rfl⟩))
   go_returns
   refine⟨rfl,?_⟩
   go_grown
 · have hk2:(x.cs.length:Int)<k:=by omega
   have hneg2:decide (k<0)=false:=decide_eq_false hneg
   clear hk
   go_enter Tryz.func123,Tryz.ntmps123
   go_wp2_with (first
    | (go_at_call 47;refine(ZZ HD.out _).mono ?_;rintro e w' ⟨rfl,rfl⟩)
    | (go_at_call 48;refine(ZK _ _ _).mono ?_;rintro e w' ⟨rfl,rfl⟩))
   go_returns
   refine⟨rfl,?_⟩
   go_grown
theorem XX (hD:Zf w F bd bn cap rn rv s rs) (n k:Nat) (x:Nd) (hx:s[n]?=some x) (ht:x.t=true) (hk:k≤x.cs.length) :
 Calls Tryz.prog 123 #[.pointer (some ⟨bd,0,none⟩),.int .i64 n,.int .i64 k] w fun e w'=>e=.returned (Zi 0 0)∧Below w.heap.size w w':=by
 have hi:n<s.length:=(List.getElem?_eq_some_iff.1 hx).1
 have hb:isB s n=true:=ZC (by omega)
 have HD:=hid hD.faultAt
 have h0:=hD.faultAt.nodesCell
 obtain⟨r,hr,ho,c0,c1,c2,c3⟩:=hD.faultAt.look hx
 rw[ht] at c0
 obtain⟨sa,sc,hkv⟩:∃ a c,r.cv=.slice a x.cs.length c:=by
  rcases ZB ho.chars with ⟨h1,h2⟩|⟨g,c,h1⟩
  · exact⟨none,0,by rw[h1,h2]⟩
  · exact⟨_,_,h1⟩
 rw[hkv] at c1
 have hk2:¬ (x.cs.length:Int)<(k:Int):=by omega
 have hneg2:decide ((k:Int)<0)=false:=decide_eq_false (by omega)
 have hk3:decide ((x.cs.length:Int)<(k:Int))=false:=decide_eq_false hk2
 clear hD c2 c3 hr ho hx hkv
 go_enter Tryz.func123,Tryz.ntmps123
 go_wp2_with (first
  | (go_at_call 47;refine(ZZ HD.out _).mono ?_;rintro e w' ⟨rfl,rfl⟩)
  | (go_at_call 48;refine(ZK _ _ _).mono ?_;rintro e w' ⟨rfl,rfl⟩))
 go_returns
 refine⟨rfl,?_⟩
 go_grown
end
end
end Go.Proofs.YtabogkonklplcaaGreatDoor
