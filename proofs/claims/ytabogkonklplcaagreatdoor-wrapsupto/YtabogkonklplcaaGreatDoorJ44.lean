import Derived.Test.YtabogkonklplcaaGreatDoorJ40
import Derived.Test.YtabogkonklplcaaGreatDoorJ36
import Derived.Test.YtabogkonklplcaaGreatDoorJ29
import Derived.Test.YtabogkonklplcaaGreatDoorJ43
import Derived.Test.YtabogkonklplcaaGreatDoorJ38
import Derived.Test.YtabogkonklplcaaGreatDoorJ39
import Derived.Test.YtabogkonklplcaaGreatDoorJ27
import Derived.Test.YtabogkonklplcaaGreatDoorJ25
namespace Go.Proofs.YtabogkonklplcaaGreatDoor
set_option linter.unusedSimpArgs false
set_option linter.unusedVariables false
set_option maxRecDepth 20000
set_option maxHeartbeats 8000000
section
abbrev Dact:Type:=Nat × Option (Nat × Nat)
inductive Chg:List Nd→Dact→List Nd→Mvf→Prop
 | cut {s:List Nd} {n o e:Nat} {x:Nd}:s[n]?=some x→x.t=true→o≤e→e≤x.cs.length →
    Chg s (n,some (o,e)) (s.set n { x with cs:=x.cs.take o++[]++x.cs.drop (o+(e - o)) }) (Zl n o ((e - o:Nat):Int) (([]:List ByteArray).length:Int))
 | rem {s:List Nd} {i j m:Nat} {x y:Nd} {h2:Nat→Nat} {H2:Nat}:s[i]?=some x→x.p=(j:Int)→s[j]?=some y→y.ks[m]?=some i→i∉y.ks.take m→i≠j →
    WF ((s.set j { y with ks:=y.ks.take m++y.ks.drop (m+1) }).set i { x with p:=-1 })→Up ((s.set j { y with ks:=y.ks.take m++y.ks.drop (m+1) }).set i { x with p:=-1 }) h2 H2 →
    Chg s (i,none) ((s.set j { y with ks:=y.ks.take m++y.ks.drop (m+1) }).set i { x with p:=-1 }) (Zz (allF ((s.set j { y with ks:=y.ks.take m++y.ks.drop (m+1) }).set i { x with p:=-1 }) (h2 i+1) i) j m (Ze j m (-1)))
inductive Chgs:List Nd→List Dact→List Nd→List Mvf→Prop
 | nil {s:List Nd}:Chgs s [] s []
 | cons {s s1 s':List Nd} {a:Dact} {ac:List Dact} {f:Mvf} {fs:List Mvf}:Chg s a s1 f→Chgs s1 ac s' fs→Chgs s (a::ac) s' (f::fs)
theorem Chgs.append {s s1 s':List Nd} {ac bs:List Dact} {fs gs:List Mvf} (h:Chgs s ac s1 fs) (h2:Chgs s1 bs s' gs):Chgs s (ac++bs) s' (fs++gs):=by
 induction h with
 | nil=>exact h2
 | cons c _ ih=>exact .cons c (ih h2)
theorem Chgs.len {s s':List Nd} {ac:List Dact} {fs:List Mvf} (h:Chgs s ac s' fs):fs.length=ac.length:=by
 induction h with
 | nil=>rfl
 | cons _ _ ih=>simp[ih]
def Zq (fs:List Mvf):Mvf:=fun a b=>fs.foldl (fun p f=>f p.1 p.2) (a,b)
theorem ZcK:mvSp (Zq [])=id:=by funext z;rfl
theorem Zfl (f:Mvf) (fs:List Mvf) (z:Sp):mvSp (Zq (f::fs)) z=mvSp (Zq fs) (mvSp f z):=rfl
theorem Xa (rs:List Sp):rs.map (mvSp (Zq []))=rs:=by rw [ZcK];simp
theorem Jg (f:Mvf) (fs:List Mvf) (rs:List Sp):rs.map (mvSp (Zq (f::fs)))=(rs.map (mvSp f)).map (mvSp (Zq fs)):=by
 rw[List.map_map];rfl
theorem ZcM {s:List Nd} (wf:WF s) {n o e:Nat} {x:Nd} (hx:s[n]?=some x) (ht:x.t=true):WF (s.set n { x with cs:=x.cs.take o++[]++x.cs.drop (o+(e - o)) }):=by
 have hch:=wf.chars n x hx
 refine Zaa wf hx ht ⟨by simp;omega,fun c hc=>?_⟩
 rw[List.append_nil] at hc
 rcases List.mem_append.1 hc with hc|hc
 · exact hch.2 c (List.mem_of_mem_take hc)
 · exact hch.2 c (List.mem_of_mem_drop hc)
theorem Chg.wf {s s':List Nd} {a:Dact} {f:Mvf} (h:Chg s a s' f) (wf:WF s):WF s':=by
 cases h with
 | cut hx ht _ _=>exact ZcM wf hx ht
 | rem _ _ _ _ _ _ h _=>exact h
theorem Chgs.wf {s s':List Nd} {ac:List Dact} {fs:List Mvf} (h:Chgs s ac s' fs) (wf:WF s):WF s':=by
 induction h with
 | nil=>exact wf
 | cons c _ ih=>exact ih (c.wf wf)
theorem Chg.lives {V:List Nd→Sp→Prop} (hV:Yq V) {s s':List Nd} {a:Dact} {f:Mvf} (h:Chg s a s' f) (wf:WF s) {z:Sp} (hz:V s z):V s' (mvSp f z):=by
 cases h with
 | cut hx ht h1 h2=>exact hV.replace wf hx ht (by omega) (ZcM wf hx ht) hz
 | rem hx hj hy hm hno hij wf2 u2 =>
   obtain⟨hh,HH,u⟩:=wf.up
   exact hV.remove _ wf hx hj hy hm hno hij (Zdd wf u hx hj hy hm hij wf2 u2) hz
theorem Chgs.lives {V:List Nd→Sp→Prop} (hV:Yq V) {s s':List Nd} {ac:List Dact} {fs:List Mvf} (h:Chgs s ac s' fs) (wf:WF s):∀ {z:Sp},V s z→V s' (mvSp (Zq fs) z):=by
 induction h with
 | nil=>intro z hz;exact hz
 | cons c _ ih=>intro z hz;exact ih (c.wf wf) (c.lives hV wf hz)
def Near (f:Mvf):Prop:=∀ a b:Int,0≤b→b≤100→0≤(f a b).2∧(f a b).2≤100
theorem Chg.near {s s':List Nd} {a:Dact} {f:Mvf} (h:Chg s a s' f) (wf:WF s):Near f:=by
 intro p q h0 h1
 cases h with
 | @cut n o e x hx ht h2 h3 =>
   have:=(wf.chars _ _ hx).1
   unfold Zl Ze
   split
   · simp only;omega
   · split
     · simp only[List.length_nil];omega
     · exact⟨h0,h1⟩
 | @rem i j m x y _ _ hx hj hy hm hno hij wf2 u2 =>
   have:=(List.getElem?_eq_some_iff.1 hm).1
   have:=XT wf hy
   unfold Zz Ze
   split
   · simp only;omega
   · split
     · simp only;omega
     · exact⟨h0,h1⟩
theorem Chgs.near {s s':List Nd} {ac:List Dact} {fs:List Mvf} (h:Chgs s ac s' fs) (wf:WF s):∀ f∈fs,Near f:=by
 induction h with
 | nil=>intro f hf;cases hf
 | cons c _ ih =>
   intro f hf
   rcases List.mem_cons.1 hf with rfl|hf
   · exact c.near wf
   · exact ih (c.wf wf) f hf
def YB (s:List Nd) (a b:Nat) (ks:List Nat):Prop:=∃ y,s[a]?=some y∧y.t=false∧b≤y.ks.length∧y.ks.take b=ks
theorem YB.ok {s:List Nd} {a b:Nat} {ks:List Nat} (h:YB s a b ks):PlOk s a b:=by
 obtain⟨y,hy,ht,hb,_⟩:=h
 exact⟨a,b,rfl,rfl,(List.getElem?_eq_some_iff.1 hy).1,by rw[ZE hy,Yg ht];exact hb⟩
def Jw (s s':List Nd) (n:Nat):Prop:=∀ x,s[n]?=some x→∃ x',s'[n]?=some x'∧x'.t=x.t∧x'.cs=x.cs
theorem ZaO {s:List Nd} {i j:Nat} {x y:Nd} (hx:s[i]?=some x) (hy:s[j]?=some y) (hij:i≠j) (ks:List Nat) (c:Nat) :
 ((s.set j { y with ks:=ks }).set i { x with p:=-1 })[c]?=(s[c]?).map (fun z=>if c=i then { z with p:=-1 } else if c=j then { z with ks:=ks } else z) :=
 Zb6 hy hx (fun e=>hij e.symm) ks (-1) c
theorem rem_step {s:List Nd} (wf:WF s) {i:Nat} {x:Nd} (hx:s[i]?=some x) (hp:0≤x.p):∃ s' f,Chg s (i,none) s' f∧(∀ n,Jw s s' n)∧(∀ n z,n≠i→s[n]?=some z→∃ z',s'[n]?=some z'∧z'.p=z.p) ∧
 (∀ a b ks,YB s a b ks→i∉ks→YB s' a b ks):=by
 obtain⟨j,m,y,hj,hy,hm,hno,_⟩:=wf.place hx hp
 obtain⟨hij,hwf⟩:=Zch wf hx hj hy hm
 obtain⟨hh2,HH2,u2⟩:=hwf.up
 have hml:=(List.getElem?_eq_some_iff.1 hm).1
 refine⟨_,_,Chg.rem hx hj hy hm hno hij hwf u2,?_,?_,?_⟩
 · intro n z hz
   rw[ZaO hx hy hij,hz]
   refine⟨_,rfl,?_,?_⟩
   · split
     · rfl
     · split <;> rfl
   · split
     · rfl
     · split <;> rfl
 · intro n z hn hz
   rw[ZaO hx hy hij,hz]
   refine⟨_,rfl,?_⟩
   simp only[if_neg hn]
   split <;> rfl
 · rintro a b ks ⟨z,hz,ht,hb,hk⟩ hi
   refine⟨_,by rw[ZaO hx hy hij,hz];rfl,?_⟩
   by_cases hai:a=i
   · simp only[if_pos hai]
     exact⟨ht,hb,hk⟩
   · simp only[if_neg hai]
     by_cases haj:a=j
     · subst haj
       rw[hy] at hz
       cases hz
       simp only[if_true]
       have hbm:b≤m:=by
        rcases Nat.lt_or_ge m b with hlt|hge
        · exact absurd (hk ▸ ZaG hm hlt) hi
        · exact hge
       refine⟨ht,by simp;omega,?_⟩
       rw[List.take_append_of_le_length (by simp;omega),List.take_take,Nat.min_eq_left hbm]
       exact hk
     · simp only[if_neg haj]
       exact⟨ht,hb,hk⟩
theorem Zhn:∀ (l:List Nat) (s:List Nd),WF s→l.Nodup→(∀ i∈l,∃ x,s[i]?=some x∧0≤x.p)→∃ s' fs,Chgs s (l.map (fun i=>((i,none):Dact))) s' fs∧(∀ n,Jw s s' n)∧(∀ a b ks,YB s a b ks→(∀ i∈l,i∉ks)→YB s' a b ks):=by
 intro l
 induction l with
 | nil=>intro s wf _ _;exact⟨s,[],.nil,fun n x hx=>⟨x,hx,rfl,rfl⟩,fun a b ks h _=>h⟩
 | cons i l ih =>
   intro s wf hnd hpar
   obtain⟨x,hx,hp⟩:=hpar i (by simp)
   obtain⟨s1,f,hc,ht,hq,hf⟩:=rem_step wf hx hp
   have hnd':=List.nodup_cons.1 hnd
   obtain⟨s',fs,hcs,ht2,hf2⟩:=ih s1 (hc.wf wf) hnd'.2 (fun k hk=>by
    obtain⟨z,hz,hzp⟩:=hpar k (by simp[hk])
    obtain⟨z',hz',e⟩:=hq k z (fun e=>hnd'.1 (e ▸ hk)) hz
    exact⟨z',hz',by omega⟩)
   refine⟨s',f::fs,.cons hc hcs,fun n z hz=>?_,fun a b ks h hk=>?_⟩
   · obtain⟨z1,hz1,e1,e2⟩:=ht n z hz
     obtain⟨z2,hz2,e3,e4⟩:=ht2 n z1 hz1
     exact⟨z2,hz2,e3.trans e1,e4.trans e2⟩
   · exact hf2 a b ks (hf a b ks h (hk i (by simp))) (fun k hk'=>hk k (by simp[hk']))
theorem ZcN {s:List Nd} {n o e:Nat} {x:Nd} (hx:s[n]?=some x) (ht:x.t=true) (h1:o≤e) (h2:e≤x.cs.length):∃ s' f,Chg s (n,some (o,e)) s' f∧(∀ k:Nat,k≠n→Jw s s' k)∧(∀ (k:Nat) (z:Nd),s[k]?=some z→∃ z':Nd,s'[k]?=some z'∧z'.t=z.t∧z'.p=z.p∧z'.ks=z.ks):=by
 have hn:=(List.getElem?_eq_some_iff.1 hx).1
 refine⟨_,_,.cut hx ht h1 h2,fun k hk z hz=>⟨z,by rw[List.getElem?_set_ne (fun e=>hk e.symm)];exact hz,rfl,rfl⟩,fun k z hz=>?_⟩
 by_cases hk:k=n
 · subst hk
   rw[hx] at hz
   cases hz
   exact⟨_,List.getElem?_set_self hn,rfl,rfl,rfl⟩
 · exact⟨z,by rw[List.getElem?_set_ne (fun e=>hk e.symm)];exact hz,rfl,rfl,rfl⟩
theorem YB.same {s s':List Nd} {a b:Nat} {ks:List Nat} (h:YB s a b ks) (hs:∀ (k:Nat) (z:Nd),s[k]?=some z→∃ z':Nd,s'[k]?=some z'∧z'.t=z.t∧z'.p=z.p∧z'.ks=z.ks):YB s' a b ks:=by
 obtain⟨y,hy,ht,hb,hk⟩:=h
 obtain⟨y',hy',e1,_,e3⟩:=hs a y hy
 exact⟨y',hy',e1.trans ht,by rw[e3];exact hb,by rw[e3];exact hk⟩
def Ye (s:List Nd) (n o e:Nat):List Dact:=if (s[n]?.map (·.t))=some true then [(n,some (o,e))] else []
def XN (s:List Nd) (B a b c d t:Nat):List Dact :=
 Ye s a b (csOf s a).length++(ZG s (plF s (B+1) t) a b c d (allF s (B+1) t)).map (fun i=>((i,none):Dact))++Ye s c 0 d
theorem Zfs {s:List Nd} (wf:WF s) {B a b c d t:Nat} (hac:a≠c∨(s[a]?.map (·.t))=some false) (hc:c < s.length) (ha:a < s.length) (hb:b≤Zn s a) (hd:d≤Zn s c) :
 ∃ s' fs,Chgs s (XN s B a b c d t) s' fs∧(∀ a' b' ks,YB s a' b' ks→(∀ i∈ZG s (plF s (B+1) t) a b c d (allF s (B+1) t),i∉ks)→YB s' a' b' ks):=by
 obtain⟨x,hx⟩:∃ x,s[a]?=some x:=⟨_,List.getElem?_eq_getElem ha⟩
 obtain⟨y,hy⟩:∃ y,s[c]?=some y:=⟨_,List.getElem?_eq_getElem hc⟩
 obtain⟨l,hl⟩:∃ l,ZG s (plF s (B+1) t) a b c d (allF s (B+1) t)=l:=⟨_,rfl⟩
 have hnd:l.Nodup:=by rw[← hl];exact(Zcs wf (B+1) t).sublist List.filter_sublist
 have hpar:∀ i∈l,∃ z,s[i]?=some z∧0≤z.p:=by
  intro i hi
  rw[← hl] at hi
  obtain⟨z,_,j,_,hz,hj,_⟩:=Zdt wf hi
  exact⟨z,hz,by omega⟩
 unfold XN
 rw[hl]
 -- the cut at the start
 obtain⟨s1,f1,hc1,wf1,hT1,hK1⟩:∃ s1 f1,Chgs s (Ye s a b (csOf s a).length) s1 f1∧WF s1∧(c≠a∨x.t=false→Jw s s1 c)∧(∀ (k:Nat) (z:Nd),s[k]?=some z→∃ z':Nd,s1[k]?=some z'∧z'.t=z.t∧z'.p=z.p∧z'.ks=z.ks):=by
  unfold Ye
  by_cases hT:(s[a]?.map (·.t))=some true
  · have ht:x.t=true:=by rw[hx] at hT;simpa using hT
    rw[if_pos hT,YZ hx]
    obtain⟨s1,f,h1,h2,h3⟩:=ZcN (o:=b) (e:=x.cs.length) hx ht (by rw[ZE hx,Yl ht] at hb;exact hb) (Nat.le_refl _)
    exact⟨s1,[f],.cons h1 .nil,h1.wf wf,fun h=>h.elim (fun h=>h2 c h) (fun h=>by rw[ht] at h;cases h),h3⟩
  · rw[if_neg hT]
    exact⟨s,[],.nil,wf,fun _ z hz=>⟨z,hz,rfl,rfl⟩,fun k z hz=>⟨z,hz,rfl,rfl,rfl⟩⟩
 obtain⟨s2,f2,hc2,hT2,hF2⟩:=Zhn l s1 wf1 hnd (fun i hi=>by
  obtain⟨z,hz,hp⟩:=hpar i hi
  obtain⟨z',hz',_,e,_⟩:=hK1 i z hz
  exact⟨z',hz',by omega⟩)
 have hSc:Jw s s2 c:=by
  intro z hz
  have h1:=hT1 (by
   rcases hac with h|h
   · exact .inl (fun e=>h e.symm)
   · right;rw[hx] at h;simpa using h)
  obtain⟨z1,hz1,e1,e2⟩:=h1 z hz
  obtain⟨z2,hz2,e3,e4⟩:=hT2 c z1 hz1
  exact⟨z2,hz2,e3.trans e1,e4.trans e2⟩
 obtain⟨s3,f3,hc3,hK3⟩:∃ s3 f3,Chgs s2 (Ye s c 0 d) s3 f3∧(∀ (k:Nat) (z:Nd),s2[k]?=some z→∃ z':Nd,s3[k]?=some z'∧z'.t=z.t∧z'.p=z.p∧z'.ks=z.ks):=by
  unfold Ye
  by_cases hT:(s[c]?.map (·.t))=some true
  · have ht:y.t=true:=by rw[hy] at hT;simpa using hT
    rw[if_pos hT]
    obtain⟨y2,hy2,e1,e2⟩:=hSc y hy
    obtain⟨s3,f,h1,h2,h3⟩:=ZcN (o:=0) (e:=d) hy2 (e1.trans ht) (Nat.zero_le _) (by rw[e2];rw[ZE hy,Yl ht] at hd;exact hd)
    exact⟨s3,[f],.cons h1 .nil,h3⟩
  · rw[if_neg hT]
    exact⟨s2,[],.nil,fun k z hz=>⟨z,hz,rfl,rfl,rfl⟩⟩
 exact⟨s3,_,(hc1.append hc2).append hc3,fun a' b' ks h hk=>(hF2 a' b' ks (h.same hK1) hk).same hK3⟩
end
section
open Go.RowKit
theorem Chgs.split:∀ {ac bs:List Dact} {s s':List Nd} {fs:List Mvf},Chgs s (ac++bs) s' fs→∃ s1 f1 f2,Chgs s ac s1 f1∧Chgs s1 bs s' f2∧fs=f1++f2:=by
 intro ac
 induction ac with
 | nil=>intro bs s s' fs h;exact⟨s,[],fs,.nil,h,rfl⟩
 | cons a ac ih =>
   intro bs s s' fs h
   cases h with
   | cons c h2 =>
     obtain⟨s1,f1,f2,h3,h4,rfl⟩:=ih h2
     exact⟨s1,_,f2,.cons c h3,h4,rfl⟩
theorem Zbo (f1 f2:List Mvf) (rs:List Sp):rs.map (mvSp (Zq (f1++f2)))=(rs.map (mvSp (Zq f1))).map (mvSp (Zq f2)):=by
 induction f1 generalizing rs with
 | nil=>rw[List.nil_append,Xa]
 | cons f fs ih=>rw[List.cons_append,Jg,Jg,ih]
theorem Chg.text {s s':List Nd} {a:Dact} {f:Mvf} (h:Chg s a s' f) (n:Nat):(s'[n]?.map (·.t))=(s[n]?.map (·.t)):=by
 cases h with
 | @cut n0 o e x hx ht _ _ =>
   by_cases hn:n=n0
   · subst hn
     rw[List.getElem?_set_self (List.getElem?_eq_some_iff.1 hx).1,hx]
     rfl
   · rw[List.getElem?_set_ne (fun e=>hn e.symm)]
 | @rem i j m x y h2 H2 hx hj hy hm hno hij _ _ =>
   rw[ZaO hx hy hij]
   cases s[n]? with
   | none=>rfl
   | some z =>
     simp only[Option.map_some,Option.some.injEq]
     split
     · rfl
     · split <;> rfl
theorem Chgs.text {s s':List Nd} {ac:List Dact} {fs:List Mvf} (h:Chgs s ac s' fs) (n:Nat):(s'[n]?.map (·.t))=(s[n]?.map (·.t)):=by
 induction h with
 | nil=>rfl
 | cons c _ ih=>rw[ih,c.text]
def RSt (F0:Nat→Prop) (w1:World) (bd:Nat) (wr:World) (s:List Nd) (rs:List Sp):Prop:=∃ Fk:Nat→Prop,RDoc wr Fk bd s rs∧(∀ b,Fk b→F0 b∨w1.heap.size≤b)∧Zb F0 w1 wr
section
variable {F0:Nat→Prop} {w1 wr:World} {bd:Nat} {s s1:List Nd} {rs:List Sp}
theorem RSt.below {W:World} (h:RSt F0 w1 bd wr s rs) (hb:Below wr.heap.size wr W):RSt F0 w1 bd W s rs:=by
 obtain⟨Fk,h1,h2,h3⟩:=h
 exact⟨Fk,h1.keeps (G:=fun _=>False) (Zb.of_below hb) (fun _ _ e=>e),h2,h3.trans (Zb.of_below hb)⟩
theorem RSt.start (h:RDoc w1 F0 bd s rs):RSt F0 w1 bd w1 s rs:=⟨F0,h,fun _ e=>.inl e,Zb.refl _ _⟩
theorem RSt.next {w2:World} {Fk:Nat→Prop} {rs1:List Sp} (h2:∀ b,Fk b→F0 b∨w1.heap.size≤b) (h3:Zb F0 w1 wr) (hk:Zb Fk wr w2) (hd:RDoc w2 (fun b=>Fk b∨wr.heap.size≤b) bd s1 rs1):RSt F0 w1 bd w2 s1 rs1:=by
 have hz:=h3.size
 refine⟨_,hd,fun b e=>?_,h3.trans (hk.mono (fun b _ e=>h2 b e))⟩
 rcases e with e|e
 · exact h2 b e
 · exact .inr (by omega)
theorem rst_rem {i:Nat} {f:Mvf} (h:RSt F0 w1 bd wr s rs) (hc:Chg s (i,none) s1 f) (wf:WF s) (hsp:∀ x∈rs,SpOk s x) (h6:rs.length≤6) :
 Calls Tryz.prog 76 #[.pointer (some ⟨bd,0,none⟩),.int .i64 i] wr fun e w'=>e=.returned (.agg #[.int .i64 0,.int .i64 0])∧RSt F0 w1 bd w' s1 (rs.map (mvSp f)):=by
 obtain⟨Fk,⟨bn,cap,rn,rv,hD⟩,h2,h3⟩:=h
 obtain⟨hh,HH,u⟩:=wf.up
 cases hc with
 | @rem i j m x y hh2 H2 hx hj hy hm hno hij wf2 u2 =>
   have hyl:=XT wf hy
   refine(Zea hD u i j m x y hx hj hy hm hno (by unfold lots;omega) hij _ (Zde wf u hx hj hy hm hij wf2 u2) wf hsp h6).mono ?_
   rintro e w' ⟨rfl,hk,hd⟩
   exact⟨rfl,RSt.next h2 h3 hk hd⟩
theorem Zb4 {n o e:Nat} {c:Int} {f:Mvf} (h:RSt F0 w1 bd wr s rs) (hc:Chg s (n,some (o,e)) s1 f) (wf:WF s) (hsp:∀ x∈rs,SpOk s x) (h6:rs.length≤6) (hce:c=((e - o:Nat):Int)) :
 Calls Tryz.prog 125 #[.pointer (some ⟨bd,0,none⟩),.int .i64 n,.int .i64 o,.int .i64 c,.slice none 0 0] wr fun e w'=>e=.returned (.tuple #[])∧RSt F0 w1 bd w' s1 (rs.map (mvSp f)):=by
 subst hce
 obtain⟨Fk,⟨bn,cap,rn,rv,hD⟩,h2,h3⟩:=h
 cases hc with
 | @cut n o e x hx ht ho he =>
   have hl:=(wf.chars _ _ hx).1
   refine(J5 hD n o (e - o) x hx hl (by omega) (.slice none 0 0) [] (by unfold lots;simp) (World.ownsRow_nil _ _ _ _) (Small.of wf hsp) h6 (by simp)).mono ?_
   rintro e w' ⟨rfl,hk,hd⟩
   exact⟨rfl,RSt.next h2 h3 hk hd⟩
end
end
section
open Go.RowKit
section
variable {w:World} {F:Nat→Prop} {bd bn cap:Nat} {rn:List RN} {rv:Value} {s:List Nd} {rs:List Sp}
theorem Zhg (hD:Zf w F bd bn cap rn rv s rs) (r:Int) (h:r < 0∨(rs.length:Int)≤r) :
 Calls Tryz.prog 86 #[.pointer (some ⟨bd,0,none⟩),.int .i64 r] w fun e w'=>e=.returned (Zi r 8)∧Below w.heap.size w w':=by
 have CR:=hid (fun W (hb:Below w.heap.size w W)=>ZaU (hD.below hb) r h)
 have h1b:((8:Int) == 0)=false:=rfl
 have HB0:Hid (Below w.heap.size w (w.alloc (.cells #[.int .i64 0,.int .i64 0] 32))):=(Below.refl _ w).alloc (Nat.le_refl _) _
 have HF0:=hid (heap_alloc_new w (.cells #[.int .i64 0,.int .i64 0] 32))
 clear hD h
 go_enter Tryz.func86,Tryz.ntmps86
 go_wp2_with (first
  | (go_at_call 131;refine(CR.out _ HB0.out).mono ?_;rintro e w1 ⟨rfl,hb1⟩
     have H1:=hid hb1
     have hs1:=hb1.size
     clear hb1)
  | (go_at_call 124;refine(Zy r 8 _).mono ?_;rintro e w2 ⟨rfl,hb2⟩
     have hf2:w2.heap[w1.heap.size]?=some (.cells #[.int .i64 r,.int .i64 8] 32 (0,0)):=(hb2.block _ (by simp)).trans (heap_alloc_new w1 _)
     have hB2:Below (w.alloc (.cells #[.int .i64 0,.int .i64 0] 32)).heap.size (w.alloc (.cells #[.int .i64 0,.int .i64 0] 32)) w2:=(H1.out.alloc H1.out.size _).trans (hb2.mono (Nat.le_trans H1.out.size (by simp)))
     have s1:=(hB2.block w.heap.size (by simp)).trans HF0.out
     have cf0:w2.cell? ⟨w1.heap.size,0,none⟩=some (.int .i64 r):=Za hf2 0
     have cf1:w2.cell? ⟨w1.heap.size,1,none⟩=some (.int .i64 8):=Za hf2 1
     have za0:w2.cell? ⟨w.heap.size,0,none⟩=some (.int .i64 0):=Za s1 0
     have za1:w2.cell? ⟨w.heap.size,1,none⟩=some (.int .i64 0):=Za s1 1
     have fa0:=Zd s1 0
     have fa1:=Zd s1 1
     have hsa:=Zc s1
     have hsf:=Zc hf2
     have hne:¬ w1.heap.size=w.heap.size:=by simp at hs1;omega
     have HB2:=hid (HB0.out.trans (hB2.mono HB0.out.size))
     clear hb2 hf2 hB2 s1
     rw[h1b]))
 refine bodyPost_ret (v:=Zi r 8) (by simp[results,Tryz.results86,go_sem, *]) rfl ?_
 refine⟨rfl,?_⟩
 have hB:=HB2.out
 have hz:=hB.size
 go_grown
theorem RSt.done {F:Nat→Prop} {w w1 w':World} {bd:Nat} {s:List Nd} {rs:List Sp} (hb:Below w.heap.size w w1) (h:RSt (fun b=>F b∧b < w.heap.size) w1 bd w' s rs):Zb F w w'∧RDoc w' (grow F w) bd s rs:=by
 obtain⟨Fk,h1,h2,h3⟩:=h
 have hz:=hb.size
 refine⟨(Zb.of_below hb).trans (h3.mono (fun b _ e=>.inl e.1)),h1.wider (fun b e=>?_)⟩
 rcases h2 b e with e|e
 · exact .inl e.1
 · exact .inr (by omega)
theorem RSt.done2 {F:Nat→Prop} {w w1 w' W:World} {bd p:Nat} {s:List Nd} {rs:List Sp} (hb:Below w.heap.size w w1) (h:RSt (fun b=>F b∧b < w.heap.size) w1 bd w' s rs) (hp:w.heap.size≤p) (hp1:p < w1.heap.size) (hk:Zb (fun b=>b=p) w' W):Zb F w W∧RDoc W (grow F w) bd s rs:=by
 obtain⟨Fk,h1,h2,h3⟩:=h
 have hz:=hb.size
 refine⟨((Zb.of_below hb).trans (h3.mono (fun b _ e=>.inl e.1))).trans (hk.mono (fun b _ e=>.inr (by omega))),(h1.keeps hk (fun b e e2=>?_)).wider (fun b e=>?_)⟩
 · subst e2
   rcases h2 _ e with e|e
   · have:=e.2;omega
   · omega
 · rcases h2 b e with e|e
   · exact .inl e.1
   · exact .inr (by omega)
theorem Zhh (wf:WF s) (hD:Zf w F bd bn cap rn rv s rs) (r a b d:Nat) (x:Nd) (hx:rs[r]?=some ⟨a,b,a,d⟩) (hn:s[a]?=some x) (ht:x.t=true) {s1:List Nd} {f:Mvf} (hc:Chg s (a,some (b,d)) s1 f) (hbd:b≤d) (hd:d≤x.cs.length) (hsp:∀ z∈rs,SpOk s z) (h6:rs.length≤6) :
 Calls Tryz.prog 86 #[.pointer (some ⟨bd,0,none⟩),.int .i64 (r:Int)] w fun e w'=>e=.returned (Zi 0 0)∧Zb F w w'∧RDoc w' (grow F w) bd s1 (rs.map (mvSp f)):=by
 have hr:r<rs.length:=(List.getElem?_eq_some_iff.1 hx).1
 have hcap:=wf.cap
 have hal:a<s.length:=(List.getElem?_eq_some_iff.1 hn).1
 have halI:(a:Int)<(s.length:Int):=by omega
 have hxl:=(wf.chars _ _ hn).1
 have CR:=hid (fun W (hb:Below w.heap.size w W)=>YU (hD.below hb) r hr)
 have h1b:((0:Int) == 0)=true:=rfl
 have hlt:=hD.lt
 have hrv:=hD.rangesCell
 have n0:=hD.nodesCell
 obtain⟨rr,hrr,ho,c0,c1,c2,c3⟩:=hD.look hn
 rw[ht] at c0
 obtain⟨g,rc,hrve,hgl,_,_,_,e0,e1,e2,e3,_⟩:=hD.spanCells hx
 rw[hrve] at hrv
 have HB0:Hid (Below w.heap.size w (w.alloc (.cells #[.int .i64 0,.int .i64 0] 32))):=(Below.refl _ w).alloc (Nat.le_refl _) _
 have HF0:=hid (heap_alloc_new w (.cells #[.int .i64 0,.int .i64 0] 32))
 have CX:=hid (fun W (hb:Below w.heap.size w W)=>Zb4 (F0:=fun b=>F b∧b<w.heap.size) (c:=(d:Int) - (b:Int)) (RSt.start ⟨bn,cap,rn,rv,hD.narrow.below hb⟩) hc wf hsp h6 (by omega))
 clear hD hx hrr ho c1 c2 c3 wf hsp hc hn
 go_enter Tryz.func86,Tryz.ntmps86
 go_wp2_with (first
  | (go_at_call 131;refine(CR.out _ HB0.out).mono ?_;rintro e w1 ⟨rfl,hb1⟩
     have H1:=hid hb1
     have hs1:=hb1.size
     clear hb1)
  | (go_at_call 124;refine(Zy 0 0 _).mono ?_;rintro e w2 ⟨rfl,hb2⟩
     have hf2:w2.heap[w1.heap.size]?=some (.cells #[.int .i64 0,.int .i64 0] 32 (0,0)):=(hb2.block _ (by simp)).trans (heap_alloc_new w1 _)
     have hB2:Below (w.alloc (.cells #[.int .i64 0,.int .i64 0] 32)).heap.size (w.alloc (.cells #[.int .i64 0,.int .i64 0] 32)) w2:=(H1.out.alloc H1.out.size _).trans (hb2.mono (Nat.le_trans H1.out.size (by simp)))
     have s1:=(hB2.block w.heap.size (by simp)).trans HF0.out
     have HF2:=hid (And.intro hf2 s1)
     have hsa:=Zc s1
     have hsf:=Zc hf2
     have hne:¬ w1.heap.size=w.heap.size:=by simp at hs1;omega
     have HB2:=hid (HB0.out.trans (hB2.mono HB0.out.size))
     have d0:=(HB2.out.cell (p:=⟨bd,1,none⟩) hlt.1).trans hrv
     have m0:=(HB2.out.cell (p:=⟨g,r*4,none⟩) hgl).trans e0
     have m1:=(HB2.out.cell (p:=⟨g,r*4+1,none⟩) hgl).trans e1
     have m2:=(HB2.out.cell (p:=⟨g,r*4+2,none⟩) hgl).trans e2
     have m3:=(HB2.out.cell (p:=⟨g,r*4+3,none⟩) hgl).trans e3
     obtain⟨W3,hW3⟩:∃ W3,w2.alloc (.cells #[.int .i64 (a:Int),.int .i64 (b:Int),.int .i64 (a:Int),.int .i64 (d:Int)] 79)=W3:=⟨_,rfl⟩
     have HW3:=hid hW3
     have HB3:Hid (Below w.heap.size w W3):=by rw[← hW3];exact HB2.out.alloc HB2.out.size _
     have HS3:Hid (W3.heap[w2.heap.size]?=some (.cells #[.int .i64 (a:Int),.int .i64 (b:Int),.int .i64 (a:Int),.int .i64 (d:Int)] 79 (0,0))):=by rw[← hW3];exact heap_alloc_new w2 _
     have HF3:Hid (W3.heap[w1.heap.size]?=some (.cells #[.int .i64 0,.int .i64 0] 32 (0,0))∧W3.heap[w.heap.size]?=some (.cells #[.int .i64 0,.int .i64 0] 32 (0,0))):=by
      rw[← hW3,Below.heap_alloc _ _ _ hsf,Below.heap_alloc _ _ _ hsa]
      exact HF2.out
     clear hW3
     clear hb2 hf2 hB2 s1
     rw[h1b]))
 rw[HW3.out]
 clear HW3
 have hw1:w.heap.size≤w1.heap.size:=by simp at hs1;omega
 have k0:=(HB3.out.cell (p:=⟨bd,0,none⟩) hlt.1).trans n0
 have k1:=(HB3.out.cell (p:=⟨bn,a*4,none⟩) hlt.2).trans c0
 have y0:=Za HS3.out 0
 have y1:=Za HS3.out 1
 have y2:=Za HS3.out 2
 have y3:=Za HS3.out 3
 go_quiet (fail)
 go_wp2_with (
  go_at_call 125
  refine(CX.out _ (Zj HB3.out _)).mono ?_
  rintro e w3 ⟨rfl,h3⟩
  have H3:=hid h3
  obtain⟨_,_,_,hk3⟩:=h3
  have hf3:=(hk3.block w1.heap.size (Zc HF3.out.1) (fun e=>Nat.not_lt.2 hw1 e.2)).trans HF3.out.1
  have hg3:=(hk3.block w.heap.size (Zc HF3.out.2) (fun e=>Nat.lt_irrefl _ e.2)).trans HF3.out.2
  have cf0:=Za hf3 0
  have cf1:=Za hf3 1
  have za0:=Za hg3 0
  have za1:=Za hg3 1
  have fa0:=Zd hg3 0
  have fa1:=Zd hg3 1
  clear hk3 hf3 hg3)
 refine bodyPost_ret (v:=Zi 0 0) (by simp[results,Tryz.results86,go_sem, *]) rfl ?_
 refine⟨rfl,?_⟩
 exact H3.out.done2 (Zj HB3.out _) (Nat.le_refl _) (Zc HF3.out.2) (((Zb.refl (fun b=>b=w.heap.size) w3).setCell (p:=⟨w.heap.size,0,none⟩) (.inl rfl) _).setCell (p:=⟨w.heap.size,1,none⟩) (.inl rfl) _)
end
end
end Go.Proofs.YtabogkonklplcaaGreatDoor
