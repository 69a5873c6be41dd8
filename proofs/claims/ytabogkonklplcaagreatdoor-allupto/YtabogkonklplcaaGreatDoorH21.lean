import Derived.Test.YtabogkonklplcaaGreatDoorH20
import Derived.Deep.Cut
import Derived.Deep.CutRange
import Derived.Test.YtabogkonklplcaaGreatDoorH13
import Derived.Test.YtabogkonklplcaaGreatDoorH16
import Derived.Test.YtabogkonklplcaaGreatDoorH07
import Derived.Test.YtabogkonklplcaaGreatDoorH19
import Derived.Test.YtabogkonklplcaaGreatDoorH10
namespace Go.Proofs.YtabogkonklplcaaGreatDoor
set_option linter.unusedSimpArgs false
set_option linter.unusedVariables false
set_option maxRecDepth 20000
set_option maxHeartbeats 8000000
section
abbrev PP:Type:=(Nat × Nat) × List Nat
def ppB (n:Nat) (ks:List Nat) (f:Nat→List PP) (i:Nat):List PP :=
 ((n,i),[2*i])::(match ks[i]? with|some c=>(f c).map (fun e=>(e.1,(2*i+1)::e.2))|none=>[])
def ppF (s:List Nd):Nat→Nat→List PP
 | 0,_=>[]
 | k+1,n=>(List.range (Zn s n+1)).flatMap (ppB n (ZD s n) (ppF s k))
theorem pp_fst (s:List Nd):∀ (k n:Nat),(ppF s k n).map Prod.fst=plF s k n:=by
 intro k
 induction k with
 | zero=>intro n;rfl
 | succ k ih =>
   intro n
   simp only[ppF,plF,upTo,List.map_flatMap]
   congr 1
   funext i
   unfold ppB
   cases (ZD s n)[i]? with
   | none=>rfl
   | some c =>
     simp only[List.map_cons,List.map_map]
     rw[← ih c]
     rfl
theorem ZdY {n i:Nat} {ks:List Nat} {f:Nat→List PP} {e:PP} (h:e∈ppB n ks f i):∃ a l,e.2=a::l∧(a=2 * i∨a=2 * i+1):=by
 unfold ppB at h
 rcases List.mem_cons.1 h with rfl|h
 · exact⟨_,_,rfl,.inl rfl⟩
 · split at h
   · obtain⟨e',_,rfl⟩:=List.mem_map.1 h
     exact⟨_,_,rfl,.inr rfl⟩
   · simp at h
abbrev lexN:List Nat→List Nat→Prop:=List.Lex (· < ·)
theorem Zg7 (s:List Nd):∀ (k n:Nat),(ppF s k n).Pairwise (fun a b=>lexN a.2 b.2):=by
 intro k
 induction k with
 | zero=>intro n;simp[ppF]
 | succ k ih =>
   intro n
   rw[ppF,List.pairwise_flatMap]
   refine⟨fun i _=>?_,?_⟩
   · unfold ppB
     rw[List.pairwise_cons]
     constructor
     · intro e he
       split at he
       · obtain⟨e',_,rfl⟩:=List.mem_map.1 he
         exact .rel (by omega)
       · simp at he
     · split
       · rw[List.pairwise_map]
         exact(ih _).imp (fun h=>.cons h)
       · exact List.Pairwise.nil
   · refine List.pairwise_lt_range.imp ?_
     intro i j hij x hx y hy
     obtain⟨a,l,ea,ha⟩:=ZdY hx
     obtain⟨b,m,eb,hb⟩:=ZdY hy
     rw[ea,eb]
     exact .rel (by omega)
theorem ZdZ {s:List Nd} {k n i:Nat} (h:i≤Zn s n):((n,i),[2 * i])∈ppF s (k+1) n:=by
 rw[ppF,List.mem_flatMap]
 exact⟨i,List.mem_range.2 (by omega),by unfold ppB;exact List.mem_cons_self⟩
theorem pp_down {s:List Nd} {k n j c:Nat} {e:PP} (hj:(ZD s n)[j]?=some c) (hl:j≤Zn s n) (h:e∈ppF s k c):(e.1,(2 * j+1)::e.2)∈ppF s (k+1) n:=by
 rw[ppF,List.mem_flatMap]
 refine⟨j,List.mem_range.2 (by omega),?_⟩
 unfold ppB
 rw[hj]
 exact List.mem_cons_of_mem _ (List.mem_map.2 ⟨e,h,rfl⟩)
theorem XU {s:List Nd}:∀ (k n:Nat) (p:Nat × Nat),p∈plF s k n→p.1∈allF s k n:=by
 intro k
 induction k with
 | zero=>intro n p h;simp[plF] at h
 | succ k ih =>
   intro n p h
   simp only[plF,upTo,List.mem_flatMap] at h
   obtain⟨i,_,h⟩:=h
   rw[allF,List.mem_cons]
   rcases List.mem_cons.1 h with rfl|h
   · exact .inl rfl
   · split at h
     · rename_i c hc
       exact .inr (List.mem_flatMap.2 ⟨c,List.mem_of_getElem? hc,ih c p h⟩)
     · simp at h
theorem Xd {s:List Nd} (wf:WF s):∀ (k n:Nat),(plF s k n).Nodup:=by
 obtain⟨h,B,u⟩:=wf.up
 intro k
 induction k with
 | zero=>intro n;simp[plF]
 | succ k ih =>
   intro n
   have hks:(ZD s n).Nodup:=by
    unfold ZD
    split
    · exact wf.nodup n _ ‹_›
    · exact List.nodup_nil
   unfold List.Nodup
   rw[plF,upTo,List.pairwise_flatMap]
   refine⟨fun i _=>?_,?_⟩
   · rw[List.pairwise_cons]
     constructor
     · intro p hp e
       subst e
       split at hp
       · rename_i c hc
         exact JA wf u (List.mem_of_getElem? hc) (XU k c _ hp)
       · simp at hp
     · split
       · exact ih _
       · exact List.Pairwise.nil
   · refine List.pairwise_lt_range.imp ?_
     intro i j hij x hx y hy e
     subst e
     rcases List.mem_cons.1 hx with rfl|hx <;> rcases List.mem_cons.1 hy with hy|hy
     · simp at hy;omega
     · split at hy
       · rename_i c hc
         exact JA wf u (List.mem_of_getElem? hc) (XU k c _ hy)
       · simp at hy
     · subst hy
       split at hx
       · rename_i c hc
         exact JA wf u (List.mem_of_getElem? hc) (XU k c _ hx)
       · simp at hx
     · split at hx
       · rename_i c hc
         split at hy
         · rename_i d hd
           have e:=Zcr wf u (List.mem_of_getElem? hc) (List.mem_of_getElem? hd) (XU k c _ hx) (XU k d _ hy)
           subst e
           obtain⟨h1,h2⟩:=List.getElem?_eq_some_iff.1 hc
           obtain⟨h3,h4⟩:=List.getElem?_eq_some_iff.1 hd
           exact List.pairwise_iff_getElem.1 hks i j h1 h3 hij (h2.trans h4.symm)
         · simp at hy
       · simp at hx
theorem Zd0 {s:List Nd} (wf:WF s) {k t:Nat} {a:Nat × Nat} {l:List Nat} {q:Int} (h:(a,l)∈ppF s k t) (hw:ZJ (plF s k t) a q):∃ i:Nat,q=i∧(ppF s k t)[i]?=some (a,l):=by
 obtain⟨i,hi⟩:=List.mem_iff_getElem?.1 h
 have hp:(plF s k t)[i]?=some a:=by rw[← pp_fst,List.getElem?_map,hi];rfl
 rcases hw with ⟨m,rfl,hm,_⟩|⟨_,hn⟩
 · refine⟨i,?_,hi⟩
   obtain⟨h1,h2⟩:=List.getElem?_eq_some_iff.1 hp
   obtain⟨h3,h4⟩:=List.getElem?_eq_some_iff.1 hm
   have hnd:=List.pairwise_iff_getElem.1 (Xd wf k t)
   rcases Nat.lt_trichotomy i m with e|e|e
   · exact absurd (h2.trans h4.symm) (hnd i m h1 h3 e)
   · rw[e]
   · exact absurd (h4.trans h2.symm) (hnd m i h3 h1 e)
 · exact absurd (List.mem_of_getElem? hp) hn
theorem pp_order {s:List Nd} (wf:WF s) {k t:Nat} {a b:Nat × Nat} {l m:List Nat} {qa qb:Int} (ha:(a,l)∈ppF s k t) (hb:(b,m)∈ppF s k t) (wa:ZJ (plF s k t) a qa) (wb:ZJ (plF s k t) b qb) :
 (qa<qb→lexN l m)∧(qb<qa→lexN m l)∧(qa=qb→l=m∧a=b):=by
 obtain⟨i,rfl,hi⟩:=Zd0 wf ha wa
 obtain⟨j,rfl,hj⟩:=Zd0 wf hb wb
 obtain⟨h1,h2⟩:=List.getElem?_eq_some_iff.1 hi
 obtain⟨h3,h4⟩:=List.getElem?_eq_some_iff.1 hj
 have hs:=List.pairwise_iff_getElem.1 (Zg7 s k t)
 refine⟨fun e=>?_,fun e=>?_,fun e=>?_⟩
 · have:=hs i j h1 h3 (by omega)
   rw[h2,h4] at this
   exact this
 · have:=hs j i h3 h1 (by omega)
   rw[h2,h4] at this
   exact this
 · obtain rfl:i=j:=by omega
   rw[hi] at hj
   cases hj
   exact⟨rfl,rfl⟩
end
section
def lexC:List Nat→List Nat→Int
 | [],[]=>0
 | [],_::_=>-1
 | _::_,[]=>1
 | a::l,b::m=>if a<b then -1 else if b<a then 1 else lexC l m
inductive Way (s:List Nd) (t:Nat):Nat→List Nat→Prop
 | top:Way s t t []
 | down {q c i:Nat} {l:List Nat} {y:Nd}:Way s t q l→s[q]?=some y→y.ks[i]?=some c→Way s t c (l++[i])
def pw (l:List Nat) (k:Nat):List Nat:=l.map (fun i=>2 * i+1)++[2 * k]
theorem Xv {l:List Nat} (h:lexN l []):False:=by cases h
theorem YK {a b:Nat} {l m:List Nat} (h:lexN (a::l) (b::m)):a < b∨a=b∧lexN l m:=by
 cases h with
 | rel h=>exact .inl h
 | cons h=>exact .inr ⟨rfl,h⟩
theorem ZaN (k:Nat):pw [] k=[2 * k]:=rfl
theorem Xf (a:Nat) (l:List Nat) (k:Nat):pw (a::l) k=(2 * a+1)::pw l k:=rfl
theorem ZaD:∀ (l1 l2:List Nat) (k1 k2:Nat),lexN (pw l1 k1) (pw l2 k2)→lexC (l1++[k1]) (l2++[k2]) = -1:=by
 intro l1
 induction l1 with
 | nil =>
   intro l2 k1 k2 h
   cases l2 with
   | nil =>
     simp only[ZaN,Xf] at h
     rcases YK h with h|⟨_,h⟩
     · simp only[List.nil_append,lexC];rw[if_pos (by omega)]
     · exact absurd h (fun h=>Xv h)
   | cons b m =>
     simp only[ZaN,Xf] at h
     rcases YK h with h|⟨h,_⟩
     · simp only[List.nil_append,List.cons_append,lexC]
       by_cases hb:k1<b
       · rw[if_pos hb]
       · rw[if_neg hb,if_neg (by omega)]
         cases m <;> rfl
     · omega
 | cons a l ih =>
   intro l2 k1 k2 h
   cases l2 with
   | nil =>
     simp only[ZaN,Xf] at h
     rcases YK h with h|⟨h,_⟩
     · simp only[List.nil_append,List.cons_append,lexC];rw[if_pos (by omega)]
     · omega
   | cons b m =>
     simp only[ZaN,Xf] at h
     rcases YK h with h|⟨h,h'⟩
     · simp only[List.cons_append,lexC];rw[if_pos (by omega)]
     · simp only[List.cons_append,lexC];rw[if_neg (by omega),if_neg (by omega)];exact ih m k1 k2 h'
theorem Zds:∀ (l m:List Nat),lexC l m = - lexC m l:=by
 intro l
 induction l with
 | nil=>intro m;cases m <;> rfl
 | cons a l ih =>
   intro m
   cases m with
   | nil=>rfl
   | cons b m =>
     simp only[lexC]
     by_cases h1:a<b
     · rw[if_pos h1,if_neg (by omega),if_pos h1]
     · by_cases h2:b<a
       · rw[if_neg h1,if_pos h2,if_pos h2];rfl
       · rw[if_neg h1,if_neg h2,if_neg h2,if_neg h1];exact ih m
theorem Zdu (l:List Nat):lexC l l=0:=by
 induction l with
 | nil=>rfl
 | cons a l ih=>simp[lexC,ih]
theorem pw_inj {l1 l2:List Nat} {k1 k2:Nat} (h:pw l1 k1=pw l2 k2):l1++[k1]=l2++[k2]:=by
 unfold pw at h
 have h1:=List.append_inj_left' h rfl
 have h2:=List.append_inj_right' h rfl
 have h3:l1=l2:=by
  refine(List.map_inj_right ?_).1 h1
  intro a b e
  omega
 have h4:k1=k2:=by simp at h2;omega
 rw[h3,h4]
theorem ZeK {s:List Nd} {h:Nat→Nat} {B:Nat} (wf:WF s) (u:Up s h B) {t n:Nat} {l:List Nat} (w:Way s t n l):h n+l.length≤h t:=by
 induction w with
 | top=>simp
 | down w hq hi ih =>
   have:=(wf.kid_lt u hq (List.mem_of_getElem? hi)).2
   rw[List.length_append]
   simp
   omega
theorem way_pp {s:List Nd} (wf:WF s) {t n:Nat} {l:List Nat} (w:Way s t n l):∀ (K:Nat) (e:PP),e∈ppF s K n→(e.1,l.map (fun i=>2 * i+1)++e.2)∈ppF s (K+l.length) t:=by
 induction w with
 | top=>intro K e h;simpa using h
 | @down q c i l y w hq hi ih =>
   intro K e h
   have hk:ZD s q=y.ks:=Yp hq
   have hl:i<y.ks.length:=(List.getElem?_eq_some_iff.1 hi).1
   have hsz:i≤Zn s q:=by
    rw[ZE hq]
    cases ht:y.t with
    | true=>have:=(wf.elem q y hq).1 ht;rw[this] at hl;simp at hl
    | false=>rw[Yg ht];omega
   have h1:=ih (K+1) _ (pp_down (k:=K) (n:=q) (j:=i) (c:=c) (by rw[hk];exact hi) hsz h)
   have e1:K+1+l.length=K+(l++[i]).length:=by simp;omega
   rw[e1] at h1
   simpa using h1
theorem XM {s:List Nd} (wf:WF s) {h:Nat→Nat} {B:Nat} (u:Up s h B) {t n k n2 k2:Nat} {l l2:List Nat} (wa:Way s t n l) (wb:Way s t n2 l2) (hk:k≤Zn s n) (hk2:k2≤Zn s n2) {qa qb:Int} (ha:ZJ (plF s (B+1) t) (n,k) qa) (hb:ZJ (plF s (B+1) t) (n2,k2) qb) :
 lexC (l++[k]) (l2++[k2])=if qa<qb then -1 else if qb<qa then 1 else 0:=by
 have key:∀ {n k:Nat} {l:List Nat},Way s t n l→k≤Zn s n→((n,k),pw l k)∈ppF s (B+1) t:=by
  intro n k l wy hk
  have h1:=ZeK wf u wy
  have h2:=u.le t
  have h3:=way_pp wf wy (B - l.length+1) _ (ZdZ (k:=B - l.length) hk)
  have e:B - l.length+1+l.length=B+1:=by omega
  rw[e] at h3
  exact h3
 obtain⟨o1,o2,o3⟩:=pp_order wf (key wa hk) (key wb hk2) ha hb
 by_cases h1:qa<qb
 · rw[if_pos h1];exact ZaD _ _ _ _ (o1 h1)
 · by_cases h2:qb<qa
   · rw[if_neg h1,if_pos h2,Zds,ZaD _ _ _ _ (o2 h2)];rfl
   · rw[if_neg h1,if_neg h2,pw_inj (o3 (by omega)).1,Zdu]
end
section
open Go.RowKit Go.Extern.Stop Go.Stop Go.Extern
theorem ZbC (v:Value) (w:World):(Instr.typeAssert (.iface 145 v) 29 151 true).run Tryz.prog w=.ok (.tuple #[.nilIface,.bool false]) w:=run_typeAssert_lacksB Tryz.underlying151 (by kernel_rfl) (by kernel_rfl) v _ w
theorem ZcW (v:Value) (w:World):(Instr.typeAssert (.iface 30 v) 29 151 true).run Tryz.prog w=.ok (.tuple #[.nilIface,.bool false]) w:=run_typeAssert_lacksB Tryz.underlying151 (by kernel_rfl) (by kernel_rfl) v _ w
theorem Zbq (u:Value) (y:Int) (w:World):(binOp .eql 29 (.iface 145 u) (.iface 30 (.int .i64 y))).run Tryz.prog w=.ok (.bool false) w:=by kernel_rfl
theorem Zgc (n y z:Int) (he:∀ w,(binOp .eql 29 (.iface 30 (.int .i64 y)) (.iface 30 (.int .i64 z))).run Tryz.prog w=.ok (.bool true) w) (w:World):Calls Tryz.prog 22 #[ZO n y,.iface 30 (.int .i64 z)] w fun e w'=>e=.returned (.bool true)∧Below w.heap.size w w':=by
 have h10:=YJ
 have tO:=Y0
 have tC:=Zal
 have ni:=ZbC
 have nu:=Y7
 have e1:=Zbq
 go_enter Tryz.func22,Tryz.ntmps22
 go_wp2
 refine wp_loop_rounds 2 ?_
 rw[rounds_succ]
 go_wp2
 rw[rounds_succ]
 go_wp2
 go_ret
 exact⟨rfl,by go_grown⟩
theorem Zdn (n y z:Int) (he:∀ w,(binOp .eql 29 (.iface 30 (.int .i64 y)) (.iface 30 (.int .i64 z))).run Tryz.prog w=.ok (.bool false) w) (w:World):Calls Tryz.prog 22 #[ZO n y,.iface 30 (.int .i64 z)] w fun e w'=>e=.returned (.bool false)∧Below w.heap.size w w':=by
 have h10:=YJ
 have tO:=Y0
 have tC:=Zal
 have ni:=ZbC
 have nu:=Y7
 have e1:=Zbq
 have niP:=ZcW
 have nuP:=JN
 have nusP:=JO
 go_enter Tryz.func22,Tryz.ntmps22
 go_wp2
 refine wp_loop_rounds 2 ?_
 rw[rounds_succ]
 go_wp2
 rw[rounds_succ]
 go_wp2
 go_ret
 exact⟨rfl,by go_grown⟩
theorem Zgb (n k:Int) (w:World):Calls Tryz.prog 22 #[.iface 145 (.agg #[.int .i64 n,outV k]),.iface 30 (.int .i64 9)] w fun e w'=>e=.returned (.bool false)∧Below w.heap.size w w':=by
 have h10:=YJ
 have tO:=Y0
 have tC:=Zal
 have ni:=ZbC
 have nu:=Y7
 have e1:=Zbq
 have e2:=ZcP
 have niO:=ZcV
 have nuO:=Zc2
 have niP:=ZcW
 have nuP:=JN
 have nusP:=JO
 have he:∀ w,(binOp .eql 29 (.iface 30 (.int .i64 3)) (.iface 30 (.int .i64 9))).run Tryz.prog w=.ok (.bool false) w:=fun w=>by kernel_rfl
 go_enter Tryz.func22,Tryz.ntmps22
 go_wp2
 refine wp_loop_rounds 3 ?_
 rw[rounds_succ]
 go_wp2
 rw[rounds_succ]
 go_wp2
 rw[rounds_succ]
 go_wp2
 go_ret
 exact⟨rfl,by go_grown⟩
end
end Go.Proofs.YtabogkonklplcaaGreatDoor
