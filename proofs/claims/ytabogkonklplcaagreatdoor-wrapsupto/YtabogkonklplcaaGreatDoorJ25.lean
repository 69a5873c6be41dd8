import Derived.Test.YtabogkonklplcaaGreatDoorJ14
import Derived.Test.YtabogkonklplcaaGreatDoorJ20
import Derived.Lib.Builder
import Derived.Lib.AppendStr
import Derived.Lib.UnsafeStr
import Derived.Lib.Walk
import Derived.Lib.RuneBytes
import Derived.Laws.Externs
import Derived.Shelf.Strings.BuilderX
import Derived.Test.YtabogkonklplcaaGreatDoorJ19
import Derived.Test.YtabogkonklplcaaGreatDoorJ09
import Derived.Maps.AppendAt
import Derived.Test.YtabogkonklplcaaGreatDoorJ23
import Derived.Test.YtabogkonklplcaaGreatDoorJ15
import Derived.Deep.QuietTactic
import Derived.BigQuiet
import Derived.Test.YtabogkonklplcaaGreatDoorJ03
import Derived.KernelRfl
namespace Go.Proofs.YtabogkonklplcaaGreatDoor
set_option linter.unusedSimpArgs false
set_option linter.unusedVariables false
set_option maxRecDepth 20000
set_option maxHeartbeats 8000000
section
abbrev PP:Type:=(Nat × Nat) × List Nat
def ppB (n:Nat) (ks:List Nat) (f:Nat→List PP) (i:Nat):List PP :=
 ((n,i),[2*i])::(match ks[i]? with|some c=>(f c).map (fun e=>(e.1,(2*i+1)::e.2))|none=>[])
def ppF (s:List Nd):Nat→Nat→List PP
 | 0,_=>[]
 | k+1,n=>(List.range (Zn s n+1)).flatMap (ppB n (ZD s n) (ppF s k))
theorem pp_fst (s:List Nd):∀ (k n:Nat),(ppF s k n).map Prod.fst=plF s k n:=by
 intro k
 induction k with
 | zero=>intro n;rfl
 | succ k ih =>
   intro n
   simp only[ppF,plF,upTo,List.map_flatMap]
   congr 1
   funext i
   unfold ppB
   cases (ZD s n)[i]? with
   | none=>rfl
   | some c =>
     simp only[List.map_cons,List.map_map]
     rw[← ih c]
     rfl
theorem Zd0 {n i:Nat} {ks:List Nat} {f:Nat→List PP} {e:PP} (h:e∈ppB n ks f i):∃ a l,e.2=a::l∧(a=2 * i∨a=2 * i+1):=by
 unfold ppB at h
 rcases List.mem_cons.1 h with rfl|h
 · exact⟨_,_,rfl,.inl rfl⟩
 · split at h
   · obtain⟨e',_,rfl⟩:=List.mem_map.1 h
     exact⟨_,_,rfl,.inr rfl⟩
   · simp at h
abbrev lexN:List Nat→List Nat→Prop:=List.Lex (· < ·)
theorem Zg3 (s:List Nd):∀ (k n:Nat),(ppF s k n).Pairwise (fun a b=>lexN a.2 b.2):=by
 intro k
 induction k with
 | zero=>intro n;simp[ppF]
 | succ k ih =>
   intro n
   rw[ppF,List.pairwise_flatMap]
   refine⟨fun i _=>?_,?_⟩
   · unfold ppB
     rw[List.pairwise_cons]
     constructor
     · intro e he
       split at he
       · obtain⟨e',_,rfl⟩:=List.mem_map.1 he
         exact .rel (by omega)
       · simp at he
     · split
       · rw[List.pairwise_map]
         exact(ih _).imp (fun h=>.cons h)
       · exact List.Pairwise.nil
   · refine List.pairwise_lt_range.imp ?_
     intro i j hij x hx y hy
     obtain⟨a,l,ea,ha⟩:=Zd0 hx
     obtain⟨b,m,eb,hb⟩:=Zd0 hy
     rw[ea,eb]
     exact .rel (by omega)
theorem Zd1 {s:List Nd} {k n i:Nat} (h:i≤Zn s n):((n,i),[2 * i])∈ppF s (k+1) n:=by
 rw[ppF,List.mem_flatMap]
 exact⟨i,List.mem_range.2 (by omega),by unfold ppB;exact List.mem_cons_self⟩
theorem pp_down {s:List Nd} {k n j c:Nat} {e:PP} (hj:(ZD s n)[j]?=some c) (hl:j≤Zn s n) (h:e∈ppF s k c):(e.1,(2 * j+1)::e.2)∈ppF s (k+1) n:=by
 rw[ppF,List.mem_flatMap]
 refine⟨j,List.mem_range.2 (by omega),?_⟩
 unfold ppB
 rw[hj]
 exact List.mem_cons_of_mem _ (List.mem_map.2 ⟨e,h,rfl⟩)
theorem XU {s:List Nd}:∀ (k n:Nat) (p:Nat × Nat),p∈plF s k n→p.1∈allF s k n:=by
 intro k
 induction k with
 | zero=>intro n p h;simp[plF] at h
 | succ k ih =>
   intro n p h
   simp only[plF,upTo,List.mem_flatMap] at h
   obtain⟨i,_,h⟩:=h
   rw[allF,List.mem_cons]
   rcases List.mem_cons.1 h with rfl|h
   · exact .inl rfl
   · split at h
     · rename_i c hc
       exact .inr (List.mem_flatMap.2 ⟨c,List.mem_of_getElem? hc,ih c p h⟩)
     · simp at h
theorem Xd {s:List Nd} (wf:WF s):∀ (k n:Nat),(plF s k n).Nodup:=by
 obtain⟨h,B,u⟩:=wf.up
 intro k
 induction k with
 | zero=>intro n;simp[plF]
 | succ k ih =>
   intro n
   have hks:(ZD s n).Nodup:=by
    unfold ZD
    split
    · exact wf.nodup n _ ‹_›
    · exact List.nodup_nil
   unfold List.Nodup
   rw[plF,upTo,List.pairwise_flatMap]
   refine⟨fun i _=>?_,?_⟩
   · rw[List.pairwise_cons]
     constructor
     · intro p hp e
       subst e
       split at hp
       · rename_i c hc
         exact JC wf u (List.mem_of_getElem? hc) (XU k c _ hp)
       · simp at hp
     · split
       · exact ih _
       · exact List.Pairwise.nil
   · refine List.pairwise_lt_range.imp ?_
     intro i j hij x hx y hy e
     subst e
     rcases List.mem_cons.1 hx with rfl|hx <;> rcases List.mem_cons.1 hy with hy|hy
     · simp at hy;omega
     · split at hy
       · rename_i c hc
         exact JC wf u (List.mem_of_getElem? hc) (XU k c _ hy)
       · simp at hy
     · subst hy
       split at hx
       · rename_i c hc
         exact JC wf u (List.mem_of_getElem? hc) (XU k c _ hx)
       · simp at hx
     · split at hx
       · rename_i c hc
         split at hy
         · rename_i d hd
           have e:=Zcr wf u (List.mem_of_getElem? hc) (List.mem_of_getElem? hd) (XU k c _ hx) (XU k d _ hy)
           subst e
           obtain⟨h1,h2⟩:=List.getElem?_eq_some_iff.1 hc
           obtain⟨h3,h4⟩:=List.getElem?_eq_some_iff.1 hd
           exact List.pairwise_iff_getElem.1 hks i j h1 h3 hij (h2.trans h4.symm)
         · simp at hy
       · simp at hx
theorem Zd2 {s:List Nd} (wf:WF s) {k t:Nat} {a:Nat × Nat} {l:List Nat} {q:Int} (h:(a,l)∈ppF s k t) (hw:ZJ (plF s k t) a q):∃ i:Nat,q=i∧(ppF s k t)[i]?=some (a,l):=by
 obtain⟨i,hi⟩:=List.mem_iff_getElem?.1 h
 have hp:(plF s k t)[i]?=some a:=by rw[← pp_fst,List.getElem?_map,hi];rfl
 rcases hw with ⟨m,rfl,hm,_⟩|⟨_,hn⟩
 · refine⟨i,?_,hi⟩
   obtain⟨h1,h2⟩:=List.getElem?_eq_some_iff.1 hp
   obtain⟨h3,h4⟩:=List.getElem?_eq_some_iff.1 hm
   have hnd:=List.pairwise_iff_getElem.1 (Xd wf k t)
   rcases Nat.lt_trichotomy i m with e|e|e
   · exact absurd (h2.trans h4.symm) (hnd i m h1 h3 e)
   · rw[e]
   · exact absurd (h4.trans h2.symm) (hnd m i h3 h1 e)
 · exact absurd (List.mem_of_getElem? hp) hn
theorem pp_order {s:List Nd} (wf:WF s) {k t:Nat} {a b:Nat × Nat} {l m:List Nat} {qa qb:Int} (ha:(a,l)∈ppF s k t) (hb:(b,m)∈ppF s k t) (wa:ZJ (plF s k t) a qa) (wb:ZJ (plF s k t) b qb) :
 (qa<qb→lexN l m)∧(qb<qa→lexN m l)∧(qa=qb→l=m∧a=b):=by
 obtain⟨i,rfl,hi⟩:=Zd2 wf ha wa
 obtain⟨j,rfl,hj⟩:=Zd2 wf hb wb
 obtain⟨h1,h2⟩:=List.getElem?_eq_some_iff.1 hi
 obtain⟨h3,h4⟩:=List.getElem?_eq_some_iff.1 hj
 have hs:=List.pairwise_iff_getElem.1 (Zg3 s k t)
 refine⟨fun e=>?_,fun e=>?_,fun e=>?_⟩
 · have:=hs i j h1 h3 (by omega)
   rw[h2,h4] at this
   exact this
 · have:=hs j i h3 h1 (by omega)
   rw[h2,h4] at this
   exact this
 · obtain rfl:i=j:=by omega
   rw[hi] at hj
   cases hj
   exact⟨rfl,rfl⟩
end
section
def lexC:List Nat→List Nat→Int
 | [],[]=>0
 | [],_::_=>-1
 | _::_,[]=>1
 | a::l,b::m=>if a<b then -1 else if b<a then 1 else lexC l m
inductive Way (s:List Nd) (t:Nat):Nat→List Nat→Prop
 | top:Way s t t []
 | down {q c i:Nat} {l:List Nat} {y:Nd}:Way s t q l→s[q]?=some y→y.ks[i]?=some c→Way s t c (l++[i])
def pw (l:List Nat) (k:Nat):List Nat:=l.map (fun i=>2 * i+1)++[2 * k]
theorem Xw {l:List Nat} (h:lexN l []):False:=by cases h
theorem YL {a b:Nat} {l m:List Nat} (h:lexN (a::l) (b::m)):a < b∨a=b∧lexN l m:=by
 cases h with
 | rel h=>exact .inl h
 | cons h=>exact .inr ⟨rfl,h⟩
theorem ZaN (k:Nat):pw [] k=[2 * k]:=rfl
theorem Xf (a:Nat) (l:List Nat) (k:Nat):pw (a::l) k=(2 * a+1)::pw l k:=rfl
theorem ZaD:∀ (l1 l2:List Nat) (k1 k2:Nat),lexN (pw l1 k1) (pw l2 k2)→lexC (l1++[k1]) (l2++[k2]) = -1:=by
 intro l1
 induction l1 with
 | nil =>
   intro l2 k1 k2 h
   cases l2 with
   | nil =>
     simp only[ZaN,Xf] at h
     rcases YL h with h|⟨_,h⟩
     · simp only[List.nil_append,lexC];rw[if_pos (by omega)]
     · exact absurd h (fun h=>Xw h)
   | cons b m =>
     simp only[ZaN,Xf] at h
     rcases YL h with h|⟨h,_⟩
     · simp only[List.nil_append,List.cons_append,lexC]
       by_cases hb:k1<b
       · rw[if_pos hb]
       · rw[if_neg hb,if_neg (by omega)]
         cases m <;> rfl
     · omega
 | cons a l ih =>
   intro l2 k1 k2 h
   cases l2 with
   | nil =>
     simp only[ZaN,Xf] at h
     rcases YL h with h|⟨h,_⟩
     · simp only[List.nil_append,List.cons_append,lexC];rw[if_pos (by omega)]
     · omega
   | cons b m =>
     simp only[ZaN,Xf] at h
     rcases YL h with h|⟨h,h'⟩
     · simp only[List.cons_append,lexC];rw[if_pos (by omega)]
     · simp only[List.cons_append,lexC];rw[if_neg (by omega),if_neg (by omega)];exact ih m k1 k2 h'
theorem Zdu:∀ (l m:List Nat),lexC l m = - lexC m l:=by
 intro l
 induction l with
 | nil=>intro m;cases m <;> rfl
 | cons a l ih =>
   intro m
   cases m with
   | nil=>rfl
   | cons b m =>
     simp only[lexC]
     by_cases h1:a<b
     · rw[if_pos h1,if_neg (by omega),if_pos h1]
     · by_cases h2:b<a
       · rw[if_neg h1,if_pos h2,if_pos h2];rfl
       · rw[if_neg h1,if_neg h2,if_neg h2,if_neg h1];exact ih m
theorem Zdw (l:List Nat):lexC l l=0:=by
 induction l with
 | nil=>rfl
 | cons a l ih=>simp[lexC,ih]
theorem pw_inj {l1 l2:List Nat} {k1 k2:Nat} (h:pw l1 k1=pw l2 k2):l1++[k1]=l2++[k2]:=by
 unfold pw at h
 have h1:=List.append_inj_left' h rfl
 have h2:=List.append_inj_right' h rfl
 have h3:l1=l2:=by
  refine(List.map_inj_right ?_).1 h1
  intro a b e
  omega
 have h4:k1=k2:=by simp at h2;omega
 rw[h3,h4]
theorem ZeM {s:List Nd} {h:Nat→Nat} {B:Nat} (wf:WF s) (u:Up s h B) {t n:Nat} {l:List Nat} (w:Way s t n l):h n+l.length≤h t:=by
 induction w with
 | top=>simp
 | down w hq hi ih =>
   have:=(wf.kid_lt u hq (List.mem_of_getElem? hi)).2
   rw[List.length_append]
   simp
   omega
theorem way_pp {s:List Nd} (wf:WF s) {t n:Nat} {l:List Nat} (w:Way s t n l):∀ (K:Nat) (e:PP),e∈ppF s K n→(e.1,l.map (fun i=>2 * i+1)++e.2)∈ppF s (K+l.length) t:=by
 induction w with
 | top=>intro K e h;simpa using h
 | @down q c i l y w hq hi ih =>
   intro K e h
   have hk:ZD s q=y.ks:=Yp hq
   have hl:i<y.ks.length:=(List.getElem?_eq_some_iff.1 hi).1
   have hsz:i≤Zn s q:=by
    rw[ZE hq]
    cases ht:y.t with
    | true=>have:=(wf.elem q y hq).1 ht;rw[this] at hl;simp at hl
    | false=>rw[Yg ht];omega
   have h1:=ih (K+1) _ (pp_down (k:=K) (n:=q) (j:=i) (c:=c) (by rw[hk];exact hi) hsz h)
   have e1:K+1+l.length=K+(l++[i]).length:=by simp;omega
   rw[e1] at h1
   simpa using h1
theorem XM {s:List Nd} (wf:WF s) {h:Nat→Nat} {B:Nat} (u:Up s h B) {t n k n2 k2:Nat} {l l2:List Nat} (wa:Way s t n l) (wb:Way s t n2 l2) (hk:k≤Zn s n) (hk2:k2≤Zn s n2) {qa qb:Int} (ha:ZJ (plF s (B+1) t) (n,k) qa) (hb:ZJ (plF s (B+1) t) (n2,k2) qb) :
 lexC (l++[k]) (l2++[k2])=if qa<qb then -1 else if qb<qa then 1 else 0:=by
 have key:∀ {n k:Nat} {l:List Nat},Way s t n l→k≤Zn s n→((n,k),pw l k)∈ppF s (B+1) t:=by
  intro n k l wy hk
  have h1:=ZeM wf u wy
  have h2:=u.le t
  have h3:=way_pp wf wy (B - l.length+1) _ (Zd1 (k:=B - l.length) hk)
  have e:B - l.length+1+l.length=B+1:=by omega
  rw[e] at h3
  exact h3
 obtain⟨o1,o2,o3⟩:=pp_order wf (key wa hk) (key wb hk2) ha hb
 by_cases h1:qa<qb
 · rw[if_pos h1];exact ZaD _ _ _ _ (o1 h1)
 · by_cases h2:qb<qa
   · rw[if_neg h1,if_pos h2,Zdu,ZaD _ _ _ _ (o2 h2)];rfl
   · rw[if_neg h1,if_neg h2,pw_inj (o3 (by omega)).1,Zdw]
end
section
open Go.RowKit
abbrev Bld (B b:Nat) (bs:List Value) (w:World):Prop:=Lib.IsBuilder 219 5 B b bs w
abbrev BldU (B b:Nat) (bs:List Value) (w:World):Prop:=Lib.BuilderAt 219 5 B b (ptr b) bs w
theorem Tryz.sizeBld:(Tryz.prog.info? 219).map (·.size)=some 2:=by kernel_rfl
set_option maxRecDepth 100000 in
theorem Zcx (b:Nat) (w:World) (h0:w.cell? ⟨b,0,none⟩=some (ptr b)) :
 Calls Tryz.prog 184 #[ptr b] w fun e w'=>e=.returned (.tuple #[])∧w'=w:=by
 obtain⟨j,hj,_⟩:=Option.map_eq_some_iff.1 Tryz.sizeBld
 go_enter Tryz.func184,Tryz.ntmps184
 go_wp2
 rw[Lib.run_neq_ptr_same w _ Tryz.underlying216 hj]
 go_wp2
 go_end0
 exact⟨rfl,rfl⟩
set_option maxRecDepth 100000 in
theorem Zcw (b:Nat) (w:World) (h0:w.cell? ⟨b,0,none⟩=some (.pointer none)) (hsh:w.shape? b=some (219,2)) (hfz:w.frozen? ⟨b,0,none⟩=false) :
 Calls Tryz.prog 184 #[ptr b] w fun e w'=>e=.returned (.tuple #[])∧w'=w.setCell ⟨b,0,none⟩ (ptr b):=by
 obtain⟨j,hj,hjs⟩:=Option.map_eq_some_iff.1 Tryz.sizeBld
 go_enter Tryz.func184,Tryz.ntmps184
 go_wp2
 rw[Lib.run_to_unsafe w ⟨b,0,none⟩ Tryz.underlying216 Tryz.underlying203 hj (by rw[hjs];decide) hsh (Nat.zero_lt_succ 1)]
 simp only[Result.andThen]
 rw[Oper.upon_value]
 go_wp2
 rw[run_callFunc_extern Tryz.func195 (by kernel_rfl) (by kernel_rfl) (by kernel_rfl) (e:=Extern.AbiNoEscape.same) (by kernel_rfl)]
 rw[Lib.run_noEscape]
 simp only[Result.andThen]
 rw[Oper.upon_value]
 go_wp2
 rw[Lib.run_from_unsafe w ⟨b,0,none⟩ Tryz.underlying203 Tryz.underlying216 hj hsh (by kernel_rfl)]
 simp only[Result.andThen]
 rw[Oper.upon_value]
 go_wp2
 go_end0
 exact⟨rfl,rfl⟩
def ZH (w w':World):Prop:=∀ (k:Nat) (t:ByteArray) (p:Nat),w.heap[k]?=some (.stringIter t p)→w'.heap[k]?=some (.stringIter t p)
theorem ZH.refl (w:World):ZH w w:=fun _ _ _ h=>h
theorem ZH.trans {a b c:World} (h:ZH a b) (g:ZH b c):ZH a c:=fun k t p hk=>g k t p (h k t p hk)
theorem ZH.alloc (w:World) (o:Obj):ZH w (w.alloc o):=fun k t p hk=>by rw [Below.heap_alloc _ _ _ (Zc hk)];exact hk
theorem ZH.setCell {w:World} {b o:Nat} {cur:Array Value} {e:TypeId} {fz:Nat × Nat} (v:Value) (hb:w.heap[b]?=some (.cells cur e fz)):ZH w (w.setCell ⟨b,o,none⟩ v):=fun k t p hk=>by
 have hne:k≠b:=fun e=>by subst e;rw[hb] at hk;cases hk
 have h:=(Zb.refl (fun x=>x=b) w).setCell (p:=⟨b,o,none⟩) (.inl rfl) v
 rw[h.block k (Zc hk) hne];exact hk
theorem ZH.grown {w w':World} {B:Nat} {v:Value} {n:Nat} {xs:List Value} {e:TypeId} {z:Nat} (hown:w.ownsRow B e z v n xs) (hg:w.grownBy w' v.ownBlock):ZH w w':=fun k t p hk=>by
 rw[hg.block k (Zc hk) ?_]
 · exact hk
 · intro e
   rcases hown.2 with ⟨hv,_⟩|⟨g,cap,cur,hv,_,hh,_⟩
   · rw[hv] at e;cases e
   · rw[hv] at e
     cases e
     rw[hh] at hk;cases hk
theorem Zbj {B b:Nat} {bs:List Value} {w:World} (h:Bld B b bs w) :
 Calls Tryz.prog 184 #[ptr b] w fun e w'=>e=.returned (.tuple #[])∧BldU B b bs w'∧Below B w w'∧ZH w w':=by
 rcases h with h|h
 · refine(Zcw b w h.cell0 h.shape h.frozen0).mono ?_
   rintro e w' ⟨rfl,rfl⟩
   have h2:=h
   obtain⟨_,v,hb,_⟩:=h2
   exact⟨rfl,h.used _,(Below.refl B w).setCell (p:=⟨b,0,none⟩) h.1 _,ZH.setCell _ hb⟩
 · refine(Zcx b w h.cell0).mono ?_
   rintro e w' ⟨rfl,rfl⟩
   exact⟨rfl,h,Below.refl B _,ZH.refl _⟩
end
section
open Go.RowKit
theorem Tryz.info5:(Tryz.prog.info? 5).map (fun i=>(i.zero,i.size,i.bytes))=some (some (.int .u8 0),1,1):=by kernel_rfl
theorem Zbk {B b:Nat} {bs bs':List Value} {v v':Value} {w0 w1 w2:World} (hB:B≤b) (hbk:w1.heap[b]?=some (.cells #[ptr b,v] 219 (0,0))) (hne:v.ownBlock≠some b) (hown:w1.ownsRow B 5 1 v bs.length bs)
 (h01:Below B w0 w1) (hik:ZH w0 w1) (hBw:B≤w1.heap.size) (hg:w1.grownBy w2 v.ownBlock) (hown':w2.ownsRow B 5 1 v' bs'.length bs') :
 BldU B b bs' (w2.setCell ⟨b,1,none⟩ v')∧(Below B w0 (w2.setCell ⟨b,1,none⟩ v')∧ZH w0 (w2.setCell ⟨b,1,none⟩ v'))∧w2.heap[b]?=some (.cells #[ptr b,v] 219 (0,0)):=by
 have hb2:w2.heap[b]?=some (.cells #[ptr b,v] 219 (0,0)):=by
  rw[hg.block b (Zc hbk) (fun e=>hne e.symm)]
  exact hbk
 exact⟨Lib.BuilderAt.put hB hb2 hown' (by decide),⟨(h01.grown hg hBw (fun k hk=>(hown.lt k hk).1)).setCell (p:=⟨b,1,none⟩) hB _,(hik.trans (ZH.grown hown hg)).trans (ZH.setCell _ hb2)⟩,hb2⟩
theorem Xl {B:Nat} {bs:List Value} {v:Value} {w:World} (h:w.ownsRow B 5 1 v bs.length bs):∃ a n c,v=.slice a n c:=by
 rcases h.2 with ⟨hv,_⟩|⟨g,cap,cur,hv,_⟩
 · exact⟨_,_,_,hv⟩
 · exact⟨_,_,_,hv⟩
set_option maxRecDepth 100000 in
theorem X6 {B b:Nat} {bs:List Value} (c:Int) {w:World} (h:Bld B b bs w) (hlen:bs.length < lots) (hBw:B≤w.heap.size) :
 Calls Tryz.prog 177 #[ptr b,.int .u8 c] w fun e w'=>e=.returned .nilIface∧BldU B b (bs++[.int .u8 c]) w'∧Below B w w'∧ZH w w':=by
 obtain⟨i0,hi,hz0,hz1,hz2⟩:=info_parts Tryz.info5
 have C:=hid (Zbj h)
 clear h
 go_enter Tryz.func177,Tryz.ntmps177
 go_wp2_with (go_at_call 184;refine C.out.mono ?_)
 rintro e w1 ⟨rfl,h1,hb1,hk1⟩
 obtain⟨hB,v,hbk,hown,hne⟩:=h1
 have hsz:=hb1.size
 obtain⟨a0,n0,p0,rfl⟩:=Xl hown
 have c1:w1.cell? ⟨b,1,none⟩=some (.slice a0 n0 p0):=Za hbk 1
 have hbn:¬ b=w1.heap.size:=by have:=Zc hbk;omega
 go_wp2_with (at_builtin;refine wpList_append_own _ rfl _ _ 217 rfl B 5 i0 (.int .u8 0) 1 1 Tryz.underlying217 hi hz0 hz1 hz2 rfl (by decide) (.slice a0 n0 p0) _ _ rfl (hown.alloc _) ⟨w1.heap.size,0,none⟩ 1 1 [.int .u8 c] rfl rfl (cell_one_new _ _ _) (by simp[Value.oneCell']) (by unfold maxLen;unfold lots at hlen;omega) (by unfold lots at hlen;omega) (by simp;omega) ?_)
 intro v' w2 hown' hgrow _
 have hbk':(w1.alloc (.cells #[.int .u8 c] 5)).heap[b]?=some (.cells #[ptr b,.slice a0 n0 p0] 219 (0,0)):=by rw[Below.heap_alloc _ _ _ (Zc hbk)];exact hbk
 have P:=hid (Zbk (bs':=bs++[.int .u8 c]) hB hbk' hne (hown.alloc _) (hb1.alloc (by omega) _) (hk1.trans (ZH.alloc _ _)) (by simp;omega) hgrow (by simpa using hown'))
 obtain⟨ao,n',cap,rfl⟩:=Xl (bs:=bs++[.int .u8 c]) (by simpa using hown')
 have d1:w2.cell? ⟨b,1,none⟩=some (.slice a0 n0 p0):=Za P.out.2.2 1
 have f1:w2.frozen? ⟨b,1,none⟩=false:=Zd P.out.2.2 1
 clear hown' hgrow hbk' hown hbk hne
 go_wp2
 go_ret
 exact⟨rfl,P.out.1,P.out.2.1⟩
set_option maxRecDepth 100000 in
theorem ZcA {B b:Nat} {bs:List Value} (s:ByteArray) {w:World} (h:Bld B b bs w) (hlen:bs.length+s.size < lots) (hBw:B≤w.heap.size) :
 Calls Tryz.prog 174 #[ptr b,.string s] w fun e w'=>e=.returned (.tuple #[.int .i64 s.size,.nilIface])∧BldU B b (bs++Lib.strCells s) w'∧Below B w w'∧ZH w w':=by
 obtain⟨i0,hi,hz0,hz1,hz2⟩:=info_parts Tryz.info5
 have C:=hid (Zbj h)
 clear h
 go_enter Tryz.func174,Tryz.ntmps174
 go_wp2_with (go_at_call 184;refine C.out.mono ?_)
 rintro e w1 ⟨rfl,h1,hb1,hk1⟩
 obtain⟨hB,v,hbk,hown,hne⟩:=h1
 have hsz:=hb1.size
 obtain⟨a0,n0,p0,rfl⟩:=Xl hown
 have c1:w1.cell? ⟨b,1,none⟩=some (.slice a0 n0 p0):=Za hbk 1
 go_wp2_with (at_builtin;refine Lib.wpList_append_own_string _ rfl _ _ 217 9 rfl B 5 i0 Tryz.underlying217 Tryz.underlying9 hi hz0 hz1 hz2 (.slice a0 n0 p0) _ _ rfl hown s rfl (by unfold maxLen;unfold lots at hlen;omega) (by unfold lots at hlen;omega) (by omega) ?_)
 intro v' w2 hown' hgrow _
 have P:=hid (Zbk (bs':=bs++Lib.strCells s) hB hbk hne hown hb1 hk1 (by omega) hgrow (by simpa[Lib.strCells_length] using hown'))
 obtain⟨ao,n',cap,rfl⟩:=Xl (bs:=bs++Lib.strCells s) (by simpa[Lib.strCells_length] using hown')
 have d1:w2.cell? ⟨b,1,none⟩=some (.slice a0 n0 p0):=Za P.out.2.2 1
 have f1:w2.frozen? ⟨b,1,none⟩=false:=Zd P.out.2.2 1
 clear hown' hgrow hown hbk hne
 go_wp2
 go_ret2
 exact⟨rfl,P.out.1,P.out.2.1⟩
def Ze0 (B b:Nat) (bs:List Value) (w:World) (e:Ending) (w':World):Prop:=∃ n:Int,e=.returned (.tuple #[.int .i64 n,.nilIface])∧BldU B b bs w'∧Below B w w'∧ZH w w'
set_option maxRecDepth 100000 in
theorem Zcz {B b:Nat} {bs:List Value} (r:Int) (hr0:0≤r) (hr1:r≤2147483647) {w:World} (h:Bld B b bs w) (hlen:bs.length < lots) (hBw:B≤w.heap.size) :
 Calls Tryz.prog 160 #[ptr b,.int .i32 r] w (Ze0 B b (bs++Lib.runeCells r) w):=by
 have C:=hid (Zbj h)
 clear h
 go_enter Tryz.func160,Tryz.ntmps160
 go_wp2_with (go_at_call 184;refine C.out.mono ?_)
 rintro e w1 ⟨rfl,h1,hb1,hk1⟩
 obtain⟨hB,v,hbk,hown,hne⟩:=h1
 have hsz:=hb1.size
 obtain⟨a0,n0,p0,rfl⟩:=Xl hown
 have c1:w1.cell? ⟨b,1,none⟩=some (.slice a0 n0 p0):=Za hbk 1
 have A1:=hid (Tryz.utf8_AppendRune_plain B (.slice a0 n0 p0) bs.length bs r (by omega) hr1 w1 hown (by unfold lots at hlen;omega) (by omega))
 go_wp2_with (go_at_call 185;refine A1.out.mono ?_)
 rintro e w2 ⟨v',rfl,hown',o,hgrow⟩
 have hbk':(w1.alloc o).heap[b]?=some (.cells #[ptr b,.slice a0 n0 p0] 219 (0,0)):=by rw[Below.heap_alloc _ _ _ (Zc hbk)];exact hbk
 have P:=hid (Zbk (bs':=bs++Lib.runeCells r) hB hbk' hne (hown.alloc _) (hb1.alloc (by omega) _) (hk1.trans (ZH.alloc _ _)) (by simp;omega) hgrow (by simpa using hown'))
 obtain⟨ao,n',cap,rfl⟩:=Xl (bs:=bs++Lib.runeCells r) (by simpa using hown')
 have d1:w2.cell? ⟨b,1,none⟩=some (.slice a0 n0 p0):=Za P.out.2.2 1
 have f1:w2.frozen? ⟨b,1,none⟩=false:=Zd P.out.2.2 1
 clear hown' hgrow hbk' hown hbk hne
 go_wp2
 go_ret2
 exact⟨_,rfl,P.out.1,P.out.2.1⟩
end
section
open Go.RowKit
theorem Y4 (a b:ByteArray):Lib.strCells (a++b)=Lib.strCells a++Lib.strCells b:=by
 simp[Lib.strCells,ByteArray.data_append]
theorem enc_39 {r:Int} (h:Lib.runeCells r=[.int .u8 39]):r=39:=by
 unfold Lib.runeCells Lib.encodeRuneZ at h
 split at h
 · simpa using h
 · (repeat' split at h) <;> simp at h
theorem enc_92 {r:Int} (h:Lib.runeCells r=[.int .u8 92]):r=92:=by
 unfold Lib.runeCells Lib.encodeRuneZ at h
 split at h
 · simpa using h
 · (repeat' split at h) <;> simp at h
theorem Zih {c:ByteArray} (h:Lib.strCells c=[.int .u8 39]):c.data.toList=[39]:=by
 unfold Lib.strCells at h
 rw[List.map_eq_singleton_iff] at h
 obtain⟨a,h1,h2⟩:=h
 rw[h1]
 simp at h2
 have:a.toNat=39:=by omega
 rw[show a=39 from UInt8.toNat_inj.1 this]
theorem Zii {c:ByteArray} (h:Lib.strCells c=[.int .u8 92]):c.data.toList=[92]:=by
 unfold Lib.strCells at h
 rw[List.map_eq_singleton_iff] at h
 obtain⟨a,h1,h2⟩:=h
 rw[h1]
 simp at h2
 have:a.toNat=92:=by omega
 rw[show a=92 from UInt8.toNat_inj.1 this]
theorem rune_q {c:ByteArray} {R:Nat} (h:Lib.runeCells (R:Int)=Lib.strCells c):isQ c=(decide (R=39) || decide (R=92)):=by
 unfold isQ
 rw[Lib.toList_data]
 by_cases h1:R=39
 · subst h1
   have e:Lib.runeCells ((39:Nat):Int)=[.int .u8 39]:=by unfold Lib.runeCells;rw[Lib.encodeRuneZ_one (by decide) (by decide)];rfl
   rw[e] at h
   rw[Zih h.symm]
   decide
 · by_cases h2:R=92
   · subst h2
     have e:Lib.runeCells ((92:Nat):Int)=[.int .u8 92]:=by unfold Lib.runeCells;rw[Lib.encodeRuneZ_one (by decide) (by decide)];rfl
     rw[e] at h
     rw[Zii h.symm]
     decide
   · have n1:(c.data.toList == [39])=false:=by
      rw[beq_eq_false_iff_ne]
      intro e
      have:Lib.strCells c=[.int .u8 39]:=by unfold Lib.strCells;rw[e];rfl
      rw[this] at h
      have:=enc_39 h
      omega
     have n2:(c.data.toList == [92])=false:=by
      rw[beq_eq_false_iff_ne]
      intro e
      have:Lib.strCells c=[.int .u8 92]:=by unfold Lib.strCells;rw[e];rfl
      rw[this] at h
      have:=enc_92 h
      omega
     rw[n1,n2]
     simp[h1,h2]
end
section
def wh:List (Nat × Nat)→Nat × Nat→Int
 | [],_=>-1
 | a::l,p=>if p=a then 0 else if wh l p<0 then -1 else wh l p+1
theorem YW (l:List (Nat × Nat)) (p:Nat × Nat):ZJ l p (wh l p):=by
 induction l with
 | nil=>exact .inr ⟨rfl,by simp⟩
 | cons a l ih =>
   unfold wh
   by_cases h:p=a
   · rw[if_pos h]
     exact .inl ⟨0,rfl,by simp[h],by simp⟩
   · rw[if_neg h]
     rcases ih with ⟨m,e,h1,h2⟩|⟨e,h1⟩
     · rw[e,if_neg (by omega)]
       exact .inl ⟨m+1,by omega,by simpa using h1,by simp[h2,h]⟩
     · rw[e,if_pos (by omega)]
       exact .inr ⟨rfl,by simp[h,h1]⟩
theorem ZaG {α:Type} {l:List α} {m k:Nat} {p:α} (h:l[m]?=some p) (hk:m < k):p∈l.take k :=
 List.mem_of_getElem? (i:=m) (by rw[List.getElem?_take,if_pos hk];exact h)
theorem ZJ.alone {l:List (Nat × Nat)} {p:Nat × Nat} {q q':Int} (h:ZJ l p q) (h':ZJ l p q'):q=q':=by
 rcases h with ⟨m,rfl,h1,h2⟩|⟨rfl,h1⟩ <;> rcases h' with ⟨m',rfl,h3,h4⟩|⟨rfl,h3⟩
 · rcases Nat.lt_trichotomy m m' with e|e|e
   · exact absurd (ZaG h1 e) h4
   · rw[e]
   · exact absurd (ZaG h3 e) h2
 · exact absurd (List.mem_of_getElem? h1) h3
 · exact absurd (List.mem_of_getElem? h3) h1
 · rfl
theorem ZJ.wh {l:List (Nat × Nat)} {p:Nat × Nat} {q:Int} (h:ZJ l p q):q=wh l p:=h.alone (YW l p)
theorem Js {l:List (Nat × Nat)} (hn:l.Nodup) {i:Nat} {p:Nat × Nat} (h:l[i]?=some p):wh l p=i:=by
 refine(ZJ.alone (.inl ⟨i,rfl,h,fun hm=>?_⟩) (YW l p)).symm
 obtain⟨j,hj⟩:=List.mem_iff_getElem?.1 hm
 rw[List.getElem?_take] at hj
 split at hj
 · rename_i hlt
   obtain⟨h1,h2⟩:=List.getElem?_eq_some_iff.1 h
   obtain⟨h3,h4⟩:=List.getElem?_eq_some_iff.1 hj
   exact List.pairwise_iff_getElem.1 hn j i h3 h1 hlt (h4.trans h2.symm)
 · cases hj
theorem Zci {l:List (Nat × Nat)} {p:Nat × Nat} (h:p∈l):∃ i:Nat,wh l p=i∧l[i]?=some p:=by
 rcases YW l p with ⟨m,e,h1,_⟩|⟨_,h1⟩
 · exact⟨m,e,h1⟩
 · exact absurd h h1
def cov (L:List (Nat × Nat)) (a b c d n k:Nat):Bool:=decide (wh L (a,b)≤wh L (n,k)) && decide (wh L (n,k+1)≤wh L (c,d))
def csOf (s:List Nd) (n:Nat):List ByteArray:=match s[n]? with | some x=>x.cs | none=>[]
theorem YZ {s:List Nd} {n:Nat} {x:Nd} (h:s[n]?=some x):csOf s n=x.cs:=by simp [csOf,h]
def pk (cs:List ByteArray) (c:Nat→Bool) (k:Nat):List ByteArray:=(List.range k).flatMap fun b=>if c b then cs[b]?.toList else []
theorem pk_zero (cs:List ByteArray) (c:Nat→Bool):pk cs c 0=[]:=rfl
theorem ZbY (cs:List ByteArray) (c:Nat→Bool) (k:Nat):pk cs c (k+1)=pk cs c k++(if c k then cs[k]?.toList else []):=by simp [pk,List.range_succ]
def Yf (s:List Nd) (L:List (Nat × Nat)) (a b c d:Nat) (ns:List Nat):List ByteArray:=ns.flatMap fun n=>pk (csOf s n) (cov L a b c d n) (csOf s n).length
def chB (s:List Nd) (L:List (Nat × Nat)) (i:Nat):List ByteArray :=
 match L[i]?,L[i+1]? with
 | some p,some q=>if p.1=q.1∧(s[p.1]?.map (·.t))=some true then (csOf s p.1)[p.2]?.toList else []
 | _,_=>[]
def YA (s:List Nd) (L:List (Nat × Nat)) (i:Nat) (m:Nat):List ByteArray:=(List.range m).flatMap fun j=>chB s L (i+j)
theorem Zd4 (s:List Nd) (L:List (Nat × Nat)) (i m:Nat):YA s L i (m+1)=YA s L i m++chB s L (i+m):=by simp [YA,List.range_succ]
theorem Zf3 {α β:Type} {l:List α} {f:α→List β} {a:α} {z:List β} (ha:a∈l) (h:z <:+: f a):z <:+: l.flatMap f:=by
 obtain⟨x,y,rfl⟩:=List.append_of_mem ha
 rw[List.flatMap_append,List.flatMap_cons]
 exact h.trans ⟨x.flatMap f,y.flatMap f,by simp⟩
theorem Zcc {s:List Nd} (wf:WF s) {n b:Nat} {x:Nd} (hx:s[n]?=some x) (ht:x.t=true) (hb:b < x.cs.length):∀ (k m:Nat),(n,b)∈plF s k m→[(n,b),(n,b+1)] <:+: plF s k m:=by
 intro k
 induction k with
 | zero=>intro m h;simp[plF] at h
 | succ k ih =>
   intro m h
   by_cases hm:m=n
   · subst hm
     have hk:ZD s m=[]:=by rw[Yp hx];exact(wf.elem m x hx).1 ht
     have e:x.cs.length+1=b+(2+(x.cs.length - b - 1)):=by omega
     rw[plF,hk,ZE hx,Yl ht,upTo,e,List.range_add,List.flatMap_append,List.range_add]
     refine List.IsInfix.trans ?_ (List.suffix_append _ _).isInfix
     rw[List.map_append,List.flatMap_append]
     refine List.IsInfix.trans ?_ (List.prefix_append _ _).isInfix
     have:(List.range 2).map (fun i=>b+i)=[b,b+1]:=by simp[List.range_succ]
     rw[this]
     simp
   · rw[plF,upTo] at h ⊢
     obtain⟨i,hi,h⟩:=List.mem_flatMap.1 h
     refine Zf3 hi ?_
     rcases List.mem_cons.1 h with h|h
     · simp at h;exact absurd h.1.symm hm
     · refine List.IsInfix.trans ?_ (List.suffix_cons _ _).isInfix
       split at h
       · rename_i c hc
         exact ih c h
       · simp at h
theorem ZgZ {s:List Nd} (wf:WF s):∀ (k t n q:Nat),n∈allF s k t→q≤Zn s n→(n,q)∈plF s k t:=by
 intro k
 induction k with
 | zero=>intro t n q h;simp[allF] at h
 | succ k ih =>
   intro t n q h hq
   rw[plF,upTo,List.mem_flatMap]
   rw[allF,List.mem_cons,List.mem_flatMap] at h
   rcases h with rfl|⟨c,hc,h⟩
   · exact⟨q,List.mem_range.2 (by omega),List.mem_cons_self⟩
   · obtain⟨x,hx,hcx⟩:=Y8 hc
     obtain⟨i,hi⟩:=List.mem_iff_getElem?.1 hcx
     have hil:i<x.ks.length:=(List.getElem?_eq_some_iff.1 hi).1
     have ht:x.t=false:=by
      cases e:x.t with
      | false=>rfl
      | true=>rw[(wf.elem t x hx).1 e] at hil;simp at hil
     refine⟨i,List.mem_range.2 (by rw[ZE hx,Yg ht];omega),List.mem_cons_of_mem _ ?_⟩
     rw[Yp hx,hi]
     exact ih c n q h hq
theorem ZbM {α:Type} {l:List α} (hn:l.Nodup) {i:Nat} {p q:α} (h:[p,q] <:+: l) (hi:l[i]?=some p):l[i+1]?=some q:=by
 obtain⟨a,b,e⟩:=h
 have h1:l[a.length]?=some p:=by rw[← e];simp
 have h2:l[a.length+1]?=some q:=by rw[← e];simp
 obtain⟨h3,h4⟩:=List.getElem?_eq_some_iff.1 h1
 obtain⟨h5,h6⟩:=List.getElem?_eq_some_iff.1 hi
 rcases Nat.lt_trichotomy i a.length with e|e|e
 · exact absurd (h6.trans h4.symm) (List.pairwise_iff_getElem.1 hn i a.length h5 h3 e)
 · rw[e];exact h2
 · exact absurd (h4.trans h6.symm) (List.pairwise_iff_getElem.1 hn a.length i h3 h5 e)
theorem wh_next {s:List Nd} (wf:WF s) {k t n b:Nat} {x:Nd} (hx:s[n]?=some x) (ht:x.t=true) (hb:b < x.cs.length) (hm:(n,b)∈plF s k t):wh (plF s k t) (n,b+1)=wh (plF s k t) (n,b)+1:=by
 obtain⟨i,e,hi⟩:=Zci hm
 rw[e,Js (Xd wf k t) (ZbM (Xd wf k t) (Zcc wf hx ht hb k t hm) hi)]
 rfl
theorem chB_at {s:List Nd} (wf:WF s) {k t i:Nat} {p:Nat × Nat} (hp:(plF s k t)[i]?=some p) (hi:i+1 < (plF s k t).length):chB s (plF s k t) i=(csOf s p.1)[p.2]?.toList:=by
 obtain⟨q,hq⟩:∃ q,(plF s k t)[i+1]?=some q:=⟨_,List.getElem?_eq_getElem hi⟩
 unfold chB
 rw[hp,hq]
 simp only
 cases hx:s[p.1]? with
 | none=>simp[csOf,hx]
 | some x =>
   cases ht:x.t with
   | false=>simp[csOf,hx,(wf.elem p.1 x hx).2 ht]
   | true =>
     by_cases he:p.1=q.1
     · simp[he,ht]
     · simp only[he,false_and,if_false]
       rw[YZ hx]
       by_cases hb:p.2<x.cs.length
       · have:=ZbM (Xd wf k t) (Zcc wf hx ht hb k t (List.mem_of_getElem? hp)) hp
         rw[hq] at this
         cases this
         exact absurd rfl he
       · rw[List.getElem?_eq_none (by omega)];rfl
theorem ZdS {s:List Nd}:∀ (k t:Nat) (p:Nat × Nat),p∈plF s k t→p.2≤Zn s p.1:=by
 intro k
 induction k with
 | zero=>intro t p h;simp[plF] at h
 | succ k ih =>
   intro t p h
   rw[plF,upTo,List.mem_flatMap] at h
   obtain⟨i,hi,h⟩:=h
   rcases List.mem_cons.1 h with rfl|h
   · have:=List.mem_range.1 hi;simp only;omega
   · split at h
     · exact ih _ p h
     · simp at h
theorem text_run {s:List Nd} (wf:WF s) {k t n:Nat} {x:Nd} (hx:s[n]?=some x) (ht:x.t=true) {i b:Nat} (hi:(plF s k t)[i]?=some (n,b)):∀ e,b+e≤x.cs.length→(plF s k t)[i+e]?=some (n,b+e):=by
 intro e
 induction e with
 | zero=>intro _;exact hi
 | succ e ih =>
   intro he
   have h1:=ih (by omega)
   exact ZbM (Xd wf k t) (Zcc (b:=b+e) wf hx ht (by omega) k t (List.mem_of_getElem? h1)) h1
theorem Zit {s:List Nd} (wf:WF s) {k t n:Nat} {x:Nd} (hx:s[n]?=some x) (ht:x.t=true) {i b b':Nat} (hi:(plF s k t)[i]?=some (n,b)) (hj:(plF s k t)[i+1]?=some (n,b')):b < x.cs.length:=by
 have h1:=ZdS k t _ (List.mem_of_getElem? hi)
 have h2:=ZdS k t _ (List.mem_of_getElem? hj)
 simp only[ZE hx,Yl ht] at h1 h2
 rcases Nat.lt_or_ge b x.cs.length with h|h
 · exact h
 · exfalso
   obtain rfl:b=x.cs.length:=by omega
   have h3:=text_run wf hx ht hj (x.cs.length - b') (by omega)
   rw[show b'+(x.cs.length - b')=x.cs.length by omega] at h3
   obtain⟨h4,h5⟩:=List.getElem?_eq_some_iff.1 hi
   obtain⟨h6,h7⟩:=List.getElem?_eq_some_iff.1 h3
   exact List.pairwise_iff_getElem.1 (Xd wf k t) i (i+1+(x.cs.length - b')) h4 h6 (by omega) (h5.trans h7.symm)
theorem chB_ch {s:List Nd} (wf:WF s) (L:List (Nat × Nat)) (i:Nat):(chB s L i).length≤1∧∀ c∈chB s L i,IsCh c:=by
 unfold chB
 split
 · split
   · rename_i p q _ _ _
     cases e:(csOf s p.1)[p.2]? with
     | none=>simp
     | some c =>
       refine⟨by simp,fun d hd=>?_⟩
       simp at hd
       subst hd
       have hm:=List.mem_of_getElem? e
       unfold csOf at hm
       split at hm
       · rename_i y hy
         exact(wf.chars p.1 y hy).2 d hm
       · simp at hm
   · simp
 · simp
theorem readR_ch {s:List Nd} (wf:WF s) (L:List (Nat × Nat)) (i m:Nat):(YA s L i m).length≤m∧∀ c∈YA s L i m,IsCh c:=by
 induction m with
 | zero=>simp[YA]
 | succ m ih =>
   have h:=chB_ch wf L (i+m)
   have h1:=h.1
   have h2:=ih.1
   rw[Zd4]
   refine⟨by rw[List.length_append];omega,fun c hc=>?_⟩
   rcases List.mem_append.1 hc with hc|hc
   · exact ih.2 c hc
   · exact h.2 c hc
theorem Zg8 {α:Type} (N lo hi:Nat) (h1:lo≤hi) (h2:hi≤N) (G:Nat→List α):(List.range N).flatMap (fun i=>if lo≤i∧i < hi then G i else [])=(List.range (hi - lo)).flatMap (fun j=>G (lo+j)):=by
 have e:N=lo+((hi - lo)+(N - hi)):=by omega
 rw[e,List.range_add,List.flatMap_append,List.range_add,List.map_append,List.flatMap_append]
 have a:(List.range lo).flatMap (fun i=>if lo≤i∧i<hi then G i else [])=[]:=by
  rw[List.flatMap_eq_nil_iff]
  intro i hi
  rw[if_neg (by have:=List.mem_range.1 hi;omega)]
 have c:(((List.range (N - hi)).map (fun x=>hi - lo+x)).map (fun x=>lo+x)).flatMap (fun i=>if lo≤i∧i<hi then G i else [])=[]:=by
  rw[List.flatMap_eq_nil_iff]
  intro i hi
  simp only[List.map_map,List.mem_map] at hi
  obtain⟨j,_,rfl⟩:=hi
  rw[if_neg (by simp only[Function.comp];omega)]
 rw[a,c,List.nil_append,List.append_nil,List.flatMap_map]
 rw[List.flatMap_def,List.flatMap_def]
 congr 1
 refine List.map_congr_left (fun j hj=>?_)
 rw[if_pos (by have:=List.mem_range.1 hj;omega)]
theorem Zc9 {α β:Type} (l:List α) (F:α→List β):l.flatMap F=(List.range l.length).flatMap (fun i=>match l[i]? with | some p=>F p | none=>[]):=by
 induction l with
 | nil=>rfl
 | cons a l ih =>
   rw[List.length_cons,List.range_succ_eq_map,List.flatMap_cons,List.flatMap_cons,List.flatMap_map,ih]
   rfl
theorem pl_texts {s:List Nd} (wf:WF s) (H:Nat × Nat→List ByteArray) (hH:∀ p,(csOf s p.1).length≤p.2→H p=[]):∀ (k n:Nat),n < s.length→(plF s k n).flatMap H=(allF s k n).flatMap (fun m=>(List.range (csOf s m).length).flatMap (fun b=>H (m,b))):=by
 intro k
 induction k with
 | zero=>intro n _;rfl
 | succ k ih =>
   intro n hn
   have hx:s[n]?=some s[n]:=List.getElem?_eq_getElem hn
   generalize s[n]=x at hx
   rw[plF,upTo,allF,List.flatMap_cons,Yp hx,ZE hx,YZ hx,List.flatMap_assoc]
   cases ht:x.t with
   | true =>
     rw[(wf.elem n x hx).1 ht,Yl ht,List.range_succ,List.flatMap_append]
     simp only[List.getElem?_nil,List.flatMap_cons,List.flatMap_nil,List.append_nil]
     rw[hH (n,x.cs.length) (by rw[YZ hx];exact Nat.le_refl _),List.append_nil]
   | false =>
     have hcs:x.cs=[]:=(wf.elem n x hx).2 ht
     have h0:∀ i,H (n,i)=[]:=fun i=>hH (n,i) (by rw[YZ hx,hcs];simp)
     rw[hcs,Yg ht,List.range_succ,List.flatMap_append]
     simp only[List.flatMap_cons,h0,List.nil_append,List.length_nil,List.range_zero,List.flatMap_nil,List.append_nil]
     rw[List.getElem?_eq_none (Nat.le_refl _)]
     simp only[List.flatMap_nil,List.append_nil]
     have key:∀ l:List Nat,(∀ c∈l,c∈x.ks)→(l.flatMap (allF s k)).flatMap (fun m=>(List.range (csOf s m).length).flatMap (fun b=>H (m,b)))=(List.range l.length).flatMap (fun i=>(match l[i]? with|some c=>plF s k c|none=>[]).flatMap H):=by
      intro l hl
      rw[List.flatMap_assoc,Zc9 l]
      rw[List.flatMap_def,List.flatMap_def]
      congr 1
      refine List.map_congr_left (fun i hi=>?_)
      cases hc:l[i]? with
      | none=>rfl
      | some c =>
        simp only
        obtain⟨y,hy,_⟩:=wf.kid n x hx c (hl c (List.mem_of_getElem? hc))
        rw[ih c (List.getElem?_eq_some_iff.1 hy).1]
     exact(key x.ks (fun c h=>h)).symm
theorem Zhk {s:List Nd} (wf:WF s) {k t a b c d i j:Nat} (ht:t < s.length) (hi:(plF s k t)[i]?=some (a,b)) (hj:(plF s k t)[j]?=some (c,d)) (hij:i≤j) :
 YA s (plF s k t) i (j - i)=Yf s (plF s k t) a b c d (allF s k t):=by
 have hnd:=Xd wf k t
 have hjl:j<(plF s k t).length:=(List.getElem?_eq_some_iff.1 hj).1
 have e1:YA s (plF s k t) i (j - i)=(plF s k t).flatMap (fun p=>if (i:Int)≤wh (plF s k t) p∧wh (plF s k t) p<j then (csOf s p.1)[p.2]?.toList else []):=by
  rw[Zc9]
  have:=Zg8 (plF s k t).length i j hij (Nat.le_of_lt hjl) (fun m=>chB s (plF s k t) m)
  rw[YA,← this,List.flatMap_def,List.flatMap_def]
  congr 1
  refine List.map_congr_left (fun m hm=>?_)
  have hml:=List.mem_range.1 hm
  have hp:(plF s k t)[m]?=some (plF s k t)[m]:=List.getElem?_eq_getElem hml
  rw[hp]
  simp only
  rw[Js hnd hp]
  by_cases hc:i≤m∧m<j
  · rw[if_pos hc,if_pos ⟨by omega,by omega⟩]
    exact chB_at wf hp (by omega)
  · rw[if_neg hc,if_neg (by omega)]
 rw[e1,pl_texts wf _ (fun p hp=>by rw[List.getElem?_eq_none hp];simp) k t ht]
 unfold Yf
 rw[List.flatMap_def,List.flatMap_def]
 congr 1
 refine List.map_congr_left (fun n hn=>?_)
 unfold pk
 rw[List.flatMap_def,List.flatMap_def]
 congr 1
 refine List.map_congr_left (fun q hq=>?_)
 have hql:=List.mem_range.1 hq
 have hnl:=X5 wf k t ht n hn
 have hx:s[n]?=some s[n]:=List.getElem?_eq_getElem hnl
 generalize s[n]=x at hx
 rw[YZ hx] at hql
 have htx:x.t=true:=by
  cases e:x.t with
  | true=>rfl
  | false=>rw[(wf.elem n x hx).2 e] at hql;simp at hql
 have hmem:(n,q)∈plF s k t:=by
  refine ZgZ wf k t n q hn ?_
  rw[ZE hx,Yl htx]
  omega
 unfold cov
 rw[Js hnd hi,Js hnd hj,wh_next wf hx htx hql hmem]
 simp only[Bool.and_eq_true,decide_eq_true_eq]
 by_cases hc:(i:Int)≤wh (plF s k t) (n,q)∧wh (plF s k t) (n,q)<j
 · rw[if_pos hc,if_pos ⟨hc.1,by omega⟩]
 · rw[if_neg hc,if_neg (by omega)]
end
section
open Go.RowKit
def Xk (v:Value) (bs:List Value) (w:World) (e:Ending) (w':World):Prop :=
 ∃ v',e=.returned v'∧w'.ownsRow 0 5 1 v' bs.length bs∧(∃ o,(w.alloc o).grownBy w' v.ownBlock)∧(v'.ownBlock=v.ownBlock∨v'.ownBlock=some (w.heap.size+1))
set_option maxRecDepth 100000 in
theorem ZgT (a0:Option Addr) (n0 p0:Nat) (bs:List Value) (r:Int) (h0:128≤r) (h1:r≤2047) (w:World) (hown:w.ownsRow 0 5 1 (.slice a0 n0 p0) bs.length bs) (hlen:bs.length < lots) :
 Calls Tryz.prog 196 #[.slice a0 n0 p0,.int .i32 r] w (Xk (.slice a0 n0 p0) (bs++[.int .u8 (192+r / 64),.int .u8 (128+r % 64)]) w):=by
 obtain⟨i0,hi,hz0,hz1,hz2⟩:=info_parts Tryz.info5
 unfold lots at hlen
 go_enter Tryz.func196,Tryz.ntmps196
 go_wp2_with (at_builtin;refine wpList_append_own_at _ rfl _ _ 217 rfl 0 5 i0 (.int .u8 0) 1 1 Tryz.underlying217 hi hz0 hz1 hz2 rfl (by decide) (.slice a0 n0 p0) _ _ rfl (hown.alloc _) ⟨w.heap.size,0,none⟩ 2 2 [.int .u8 (192+r / 64),.int .u8 (128+r % 64)] rfl rfl ?c1 (by simp[Value.oneCell']) (by unfold maxLen;omega) (by omega) (Nat.zero_le _) ?_)
 case c1 =>
  intro j u hj
  match j,hj with
  | 0,hj=>simp at hj;subst hj;simp[Addr.add]
  | 1,hj=>simp at hj;subst hj;simp[Addr.add]
  | (j+2),hj=>simp at hj
 intro v' w2 hown' hgrow _ hat
 go_wp2
 go_ret
 exact⟨_,rfl,by simpa using hown',⟨_,hgrow⟩,by simpa using hat⟩
set_option maxRecDepth 100000 in
theorem ZgS (a0:Option Addr) (n0 p0:Nat) (bs:List Value) (r:Int) (h0:2048≤r) (h1:r < 55296) (w:World) (hown:w.ownsRow 0 5 1 (.slice a0 n0 p0) bs.length bs) (hlen:bs.length < lots) :
 Calls Tryz.prog 196 #[.slice a0 n0 p0,.int .i32 r] w (Xk (.slice a0 n0 p0) (bs++[.int .u8 (224+r / 4096),.int .u8 (128+r / 64 % 64),.int .u8 (128+r % 64)]) w):=by
 obtain⟨i0,hi,hz0,hz1,hz2⟩:=info_parts Tryz.info5
 unfold lots at hlen
 go_enter Tryz.func196,Tryz.ntmps196
 go_wp2_with (at_builtin;refine wpList_append_own_at _ rfl _ _ 217 rfl 0 5 i0 (.int .u8 0) 1 1 Tryz.underlying217 hi hz0 hz1 hz2 rfl (by decide) (.slice a0 n0 p0) _ _ rfl (hown.alloc _) ⟨w.heap.size,0,none⟩ 3 3 [.int .u8 (224+r / 4096),.int .u8 (128+r / 64 % 64),.int .u8 (128+r % 64)] rfl rfl ?c1 (by simp[Value.oneCell']) (by unfold maxLen;omega) (by omega) (Nat.zero_le _) ?_)
 case c1 =>
  intro j u hj
  match j,hj with
  | 0,hj=>simp at hj;subst hj;simp[Addr.add]
  | 1,hj=>simp at hj;subst hj;simp[Addr.add]
  | 2,hj=>simp at hj;subst hj;simp[Addr.add]
  | (j+3),hj=>simp at hj
 intro v' w2 hown' hgrow _ hat
 go_wp2
 go_ret
 exact⟨_,rfl,by simpa using hown',⟨_,hgrow⟩,by simpa using hat⟩
set_option maxRecDepth 100000 in
theorem ZgR (a0:Option Addr) (n0 p0:Nat) (bs:List Value) (r:Int) (h0:55296≤r) (h1:r≤57343) (w:World) (hown:w.ownsRow 0 5 1 (.slice a0 n0 p0) bs.length bs) (hlen:bs.length < lots) :
 Calls Tryz.prog 196 #[.slice a0 n0 p0,.int .i32 r] w (Xk (.slice a0 n0 p0) (bs++[.int .u8 239,.int .u8 191,.int .u8 189]) w):=by
 obtain⟨i0,hi,hz0,hz1,hz2⟩:=info_parts Tryz.info5
 unfold lots at hlen
 go_enter Tryz.func196,Tryz.ntmps196
 go_wp2_with (at_builtin;refine wpList_append_own_at _ rfl _ _ 217 rfl 0 5 i0 (.int .u8 0) 1 1 Tryz.underlying217 hi hz0 hz1 hz2 rfl (by decide) (.slice a0 n0 p0) _ _ rfl (hown.alloc _) ⟨w.heap.size,0,none⟩ 3 3 [.int .u8 239,.int .u8 191,.int .u8 189] rfl rfl ?c1 (by simp[Value.oneCell']) (by unfold maxLen;omega) (by omega) (Nat.zero_le _) ?_)
 all_goals first
  | (intro v' w2 hown' hgrow _ hat;go_wp2;go_ret;exact⟨_,rfl,by simpa using hown',⟨_,hgrow⟩,by simpa using hat⟩)
  | (intro j u hj
     match j,hj with
     | 0,hj=>simp at hj;subst hj;simp[Addr.add]
     | 1,hj=>simp at hj;subst hj;simp[Addr.add]
     | 2,hj=>simp at hj;subst hj;simp[Addr.add]
     | (j+3),hj=>simp at hj)
set_option maxRecDepth 100000 in
theorem ZgQ (a0:Option Addr) (n0 p0:Nat) (bs:List Value) (r:Int) (h0:57343 < r) (h1:r≤65535) (w:World) (hown:w.ownsRow 0 5 1 (.slice a0 n0 p0) bs.length bs) (hlen:bs.length < lots) :
 Calls Tryz.prog 196 #[.slice a0 n0 p0,.int .i32 r] w (Xk (.slice a0 n0 p0) (bs++[.int .u8 (224+r / 4096),.int .u8 (128+r / 64 % 64),.int .u8 (128+r % 64)]) w):=by
 obtain⟨i0,hi,hz0,hz1,hz2⟩:=info_parts Tryz.info5
 unfold lots at hlen
 go_enter Tryz.func196,Tryz.ntmps196
 go_wp2_with (at_builtin;refine wpList_append_own_at _ rfl _ _ 217 rfl 0 5 i0 (.int .u8 0) 1 1 Tryz.underlying217 hi hz0 hz1 hz2 rfl (by decide) (.slice a0 n0 p0) _ _ rfl (hown.alloc _) ⟨w.heap.size,0,none⟩ 3 3 [.int .u8 (224+r / 4096),.int .u8 (128+r / 64 % 64),.int .u8 (128+r % 64)] rfl rfl ?c1 (by simp[Value.oneCell']) (by unfold maxLen;omega) (by omega) (Nat.zero_le _) ?_)
 case c1 =>
  intro j u hj
  match j,hj with
  | 0,hj=>simp at hj;subst hj;simp[Addr.add]
  | 1,hj=>simp at hj;subst hj;simp[Addr.add]
  | 2,hj=>simp at hj;subst hj;simp[Addr.add]
  | (j+3),hj=>simp at hj
 intro v' w2 hown' hgrow _ hat
 go_wp2
 go_ret
 exact⟨_,rfl,by simpa using hown',⟨_,hgrow⟩,by simpa using hat⟩
set_option maxRecDepth 100000 in
theorem ZgP (a0:Option Addr) (n0 p0:Nat) (bs:List Value) (r:Int) (h0:65536≤r) (h1:r≤1114111) (w:World) (hown:w.ownsRow 0 5 1 (.slice a0 n0 p0) bs.length bs) (hlen:bs.length < lots) :
 Calls Tryz.prog 196 #[.slice a0 n0 p0,.int .i32 r] w (Xk (.slice a0 n0 p0) (bs++[.int .u8 (240+r / 262144),.int .u8 (128+r / 4096 % 64),.int .u8 (128+r / 64 % 64),.int .u8 (128+r % 64)]) w):=by
 obtain⟨i0,hi,hz0,hz1,hz2⟩:=info_parts Tryz.info5
 unfold lots at hlen
 go_enter Tryz.func196,Tryz.ntmps196
 go_wp2_with (at_builtin;refine wpList_append_own_at _ rfl _ _ 217 rfl 0 5 i0 (.int .u8 0) 1 1 Tryz.underlying217 hi hz0 hz1 hz2 rfl (by decide) (.slice a0 n0 p0) _ _ rfl (hown.alloc _) ⟨w.heap.size,0,none⟩ 4 4 [.int .u8 (240+r / 262144),.int .u8 (128+r / 4096 % 64),.int .u8 (128+r / 64 % 64),.int .u8 (128+r % 64)] rfl rfl ?c1 (by simp[Value.oneCell']) (by unfold maxLen;omega) (by omega) (Nat.zero_le _) ?_)
 case c1 =>
  intro j u hj
  match j,hj with
  | 0,hj=>simp at hj;subst hj;simp[Addr.add]
  | 1,hj=>simp at hj;subst hj;simp[Addr.add]
  | 2,hj=>simp at hj;subst hj;simp[Addr.add]
  | 3,hj=>simp at hj;subst hj;simp[Addr.add]
  | (j+4),hj=>simp at hj
 intro v' w2 hown' hgrow _ hat
 go_wp2
 go_ret
 exact⟨_,rfl,by simpa using hown',⟨_,hgrow⟩,by simpa using hat⟩
set_option maxRecDepth 100000 in
theorem ZgO (a0:Option Addr) (n0 p0:Nat) (bs:List Value) (r:Int) (h0:1114111 < r) (h1:r≤2147483647) (w:World) (hown:w.ownsRow 0 5 1 (.slice a0 n0 p0) bs.length bs) (hlen:bs.length < lots) :
 Calls Tryz.prog 196 #[.slice a0 n0 p0,.int .i32 r] w (Xk (.slice a0 n0 p0) (bs++[.int .u8 239,.int .u8 191,.int .u8 189]) w):=by
 obtain⟨i0,hi,hz0,hz1,hz2⟩:=info_parts Tryz.info5
 unfold lots at hlen
 go_enter Tryz.func196,Tryz.ntmps196
 go_wp2_with (at_builtin;refine wpList_append_own_at _ rfl _ _ 217 rfl 0 5 i0 (.int .u8 0) 1 1 Tryz.underlying217 hi hz0 hz1 hz2 rfl (by decide) (.slice a0 n0 p0) _ _ rfl (hown.alloc _) ⟨w.heap.size,0,none⟩ 3 3 [.int .u8 239,.int .u8 191,.int .u8 189] rfl rfl ?c1 (by simp[Value.oneCell']) (by unfold maxLen;omega) (by omega) (Nat.zero_le _) ?_)
 case c1 =>
  intro j u hj
  match j,hj with
  | 0,hj=>simp at hj;subst hj;simp[Addr.add]
  | 1,hj=>simp at hj;subst hj;simp[Addr.add]
  | 2,hj=>simp at hj;subst hj;simp[Addr.add]
  | (j+3),hj=>simp at hj
 intro v' w2 hown' hgrow _ hat
 go_wp2
 go_ret
 exact⟨_,rfl,by simpa using hown',⟨_,hgrow⟩,by simpa using hat⟩
theorem ZgN (a0:Option Addr) (n0 p0:Nat) (bs:List Value) (r:Int) (h0:128≤r) (h1:r≤2147483647) (w:World) (hown:w.ownsRow 0 5 1 (.slice a0 n0 p0) bs.length bs) (hlen:bs.length < lots) :
 Calls Tryz.prog 196 #[.slice a0 n0 p0,.int .i32 r] w (Xk (.slice a0 n0 p0) (bs++Lib.runeCells r) w):=by
 by_cases c1:r≤2047
 · rw[show Lib.runeCells r=[.int .u8 (192+r / 64),.int .u8 (128+r % 64)] by simp[Lib.runeCells,Lib.encodeRuneZ_two (by omega) c1]]
   exact ZgT a0 n0 p0 bs r (by omega) (by omega) w hown hlen
 by_cases c2:r<55296
 · rw[show Lib.runeCells r=[.int .u8 (224+r / 4096),.int .u8 (128+r / 64 % 64),.int .u8 (128+r % 64)] by simp[Lib.runeCells,Lib.encodeRuneZ_three (Or.inl ⟨by omega,c2⟩)]]
   exact ZgS a0 n0 p0 bs r (by omega) (by omega) w hown hlen
 by_cases c3:r≤57343
 · rw[show Lib.runeCells r=[.int .u8 239,.int .u8 191,.int .u8 189] by simp[Lib.runeCells,Lib.encodeRuneZ_bad (Or.inr (Or.inl ⟨by omega,c3⟩))]]
   exact ZgR a0 n0 p0 bs r (by omega) (by omega) w hown hlen
 by_cases c4:r≤65535
 · rw[show Lib.runeCells r=[.int .u8 (224+r / 4096),.int .u8 (128+r / 64 % 64),.int .u8 (128+r % 64)] by simp[Lib.runeCells,Lib.encodeRuneZ_three (Or.inr ⟨by omega,c4⟩)]]
   exact ZgQ a0 n0 p0 bs r (by omega) (by omega) w hown hlen
 by_cases c5:r≤1114111
 · rw[show Lib.runeCells r=[.int .u8 (240+r / 262144),.int .u8 (128+r / 4096 % 64),.int .u8 (128+r / 64 % 64),.int .u8 (128+r % 64)] by simp[Lib.runeCells,Lib.encodeRuneZ_four (by omega) c5]]
   exact ZgP a0 n0 p0 bs r (by omega) (by omega) w hown hlen
 · rw[show Lib.runeCells r=[.int .u8 239,.int .u8 191,.int .u8 189] by simp[Lib.runeCells,Lib.encodeRuneZ_bad (r:=r) (Or.inr (Or.inr (by omega)))]]
   exact ZgO a0 n0 p0 bs r (by omega) (by omega) w hown hlen
set_option maxRecDepth 100000 in
theorem Ze4 (a0:Option Addr) (n0 p0:Nat) (bs:List Value) (r:Int) (h0:0≤r) (h1:r≤2147483647) (w:World) (hown:w.ownsRow 0 5 1 (.slice a0 n0 p0) bs.length bs) (hlen:bs.length < lots) :
 Calls Tryz.prog 185 #[.slice a0 n0 p0,.int .i32 r] w (Xk (.slice a0 n0 p0) (bs++Lib.runeCells r) w):=by
 by_cases c:r≤127
 · obtain⟨i0,hi,hz0,hz1,hz2⟩:=info_parts Tryz.info5
   unfold lots at hlen
   rw[show Lib.runeCells r=[.int .u8 r] by simp[Lib.runeCells,Lib.encodeRuneZ_one h0 c]]
   go_enter Tryz.func185,Tryz.ntmps185
   go_wp2_with (at_builtin;refine wpList_append_own_at _ rfl _ _ 217 rfl 0 5 i0 (.int .u8 0) 1 1 Tryz.underlying217 hi hz0 hz1 hz2 rfl (by decide) (.slice a0 n0 p0) _ _ rfl (hown.alloc _) ⟨w.heap.size,0,none⟩ 1 1 [.int .u8 r] rfl rfl ?c1 (by simp[Value.oneCell']) (by unfold maxLen;omega) (by omega) (Nat.zero_le _) ?_)
   case c1 =>
    intro j u hj
    match j,hj with
    | 0,hj=>simp at hj;subst hj;simp[Addr.add]
    | (j+1),hj=>simp at hj
   intro v' w2 hown' hgrow _ hat
   go_wp2
   go_ret
   exact⟨_,rfl,by simpa using hown',⟨_,hgrow⟩,by simpa using hat⟩
 · have C:=hid (ZgN a0 n0 p0 bs r (by omega) h1 w hown hlen)
   clear hown
   go_enter Tryz.func185,Tryz.ntmps185
   go_wp2_with (go_at_call 196;refine C.out.mono ?_)
   rintro e w1 ⟨v',rfl,h1,h2⟩
   go_wp2
   go_ret
   exact⟨_,rfl,h1,h2⟩
def BldV (b:Nat) (v:Value) (bs:List Value) (w:World):Prop :=
 (w.heap[b]?=some (.cells #[.pointer none,v] 219 (0,0))∨w.heap[b]?=some (.cells #[ptr b,v] 219 (0,0)))∧w.ownsRow 0 5 1 v bs.length bs∧v.ownBlock≠some b
theorem BldV.keeps {b:Nat} {v:Value} {bs:List Value} {w w':World} {F:Nat→Prop} (h:BldV b v bs w) (hk:Zb F w w') (hb:¬ F b) (hv:∀ k,v.ownBlock=some k→¬ F k):BldV b v bs w':=by
 obtain⟨h1,h2,h3⟩:=h
 refine⟨?_,hk.row h2 hv,h3⟩
 rcases h1 with h1|h1
 · exact .inl (by rw[hk.block b (Zc h1) hb];exact h1)
 · exact .inr (by rw[hk.block b (Zc h1) hb];exact h1)
theorem BldV.lt {b:Nat} {v:Value} {bs:List Value} {w:World} (h:BldV b v bs w):b < w.heap.size:=h.1.elim Zc Zc
theorem bcheckV {b:Nat} {v:Value} {bs:List Value} {w:World} (h:BldV b v bs w) :
 Calls Tryz.prog 184 #[ptr b] w fun e w'=>e=.returned (.tuple #[])∧w'.heap[b]?=some (.cells #[ptr b,v] 219 (0,0))∧w'.ownsRow 0 5 1 v bs.length bs∧Zb (fun k=>k=b) w w'∧ZH w w'∧w'.heap.size=w.heap.size:=by
 obtain⟨h1,h2,h3⟩:=h
 rcases h1 with h1|h1
 · have hf:Lib.BuilderAt 219 5 0 b (.pointer none) bs w:=⟨Nat.zero_le _,v,h1,h2,h3⟩
   refine(Zcw b w hf.cell0 hf.shape hf.frozen0).mono ?_
   rintro e w' ⟨rfl,rfl⟩
   have hk:=(Zb.refl (fun k=>k=b) w).setCell (p:=⟨b,0,none⟩) (.inl rfl) (ptr b)
   exact⟨rfl,by rw[heap_setCell_same w _ 0 _ _ _ h1];rfl,hk.row h2 (fun k e e2=>h3 (e2 ▸ e)),hk,ZH.setCell _ h1,by simp⟩
 · refine(Zcx b w (Za h1 0)).mono ?_
   rintro e w' ⟨rfl,rfl⟩
   exact⟨rfl,h1,h2,Zb.refl _ _,ZH.refl _,rfl⟩
def RuneV (b:Nat) (v:Value) (bs:List Value) (w:World) (e:Ending) (w':World):Prop :=
 ∃ (n:Int) (v':Value),e=.returned (.tuple #[.int .i64 n,.nilIface])∧BldV b v' bs w'∧Zb (fun k=>k=b∨v.ownBlock=some k) w w'∧(∀ k,v'.ownBlock=some k→v.ownBlock=some k∨w.heap.size≤k)∧ZH w w'
set_option maxRecDepth 100000 in
theorem bruneV {b:Nat} {v:Value} {bs:List Value} (r:Int) (hr0:0≤r) (hr1:r≤2147483647) {w:World} (h:BldV b v bs w) (hlen:bs.length < lots) :
 Calls Tryz.prog 160 #[ptr b,.int .i32 r] w (RuneV b v (bs++Lib.runeCells r) w):=by
 have C:=hid (bcheckV h)
 have hne:=h.2.2
 have hbl:=h.lt
 clear h
 go_enter Tryz.func160,Tryz.ntmps160
 go_wp2_with (go_at_call 184;refine C.out.mono ?_)
 rintro e w1 ⟨rfl,hbk,hown,hk1,hi1,hs1⟩
 obtain⟨a0,n0,p0,rfl⟩:=Xl hown
 have c1:w1.cell? ⟨b,1,none⟩=some (.slice a0 n0 p0):=Za hbk 1
 have A1:=hid (Ze4 a0 n0 p0 bs r hr0 hr1 w1 hown hlen)
 have H1:=hid (And.intro hbk (And.intro hown (And.intro hk1 hi1)))
 have HS:=hid hs1
 clear hbk hown hk1 hi1 hs1
 go_wp2_with (go_at_call 185;refine A1.out.mono ?_)
 rintro e w2 ⟨v',rfl,hown',⟨o,hgrow⟩,hat⟩
 obtain⟨hbk,hown,hk1,hi1⟩:=H1.out
 have hs1:=HS.out
 have hbk':(w1.alloc o).heap[b]?=some (.cells #[ptr b,.slice a0 n0 p0] 219 (0,0)):=by rw[Below.heap_alloc _ _ _ (Zc hbk)];exact hbk
 have hb2:w2.heap[b]?=some (.cells #[ptr b,.slice a0 n0 p0] 219 (0,0)):=by
  rw[hgrow.block b (Zc hbk') (fun e=>hne e.symm)]
  exact hbk'
 have hk2:Zb (fun k=>k=b∨(Value.slice a0 n0 p0).ownBlock=some k) w w2 :=
  ((hk1.mono (fun k _ e=>.inl e)).alloc o).trans (Zb.grown hgrow (fun k e=>.inl (.inl (.inr e))))
 have hi2:ZH w w2:=(hi1.trans (ZH.alloc _ _)).trans (ZH.grown (hown.alloc o) hgrow)
 have hgain:∀ k,v'.ownBlock=some k→(Value.slice a0 n0 p0).ownBlock=some k∨w.heap.size≤k:=by
  intro k e
  rcases hat with h|h
  · exact .inl (h ▸ e)
  · rw[h] at e
    cases e
    exact .inr (by omega)
 have hne':v'.ownBlock≠some b:=by
  rcases hat with h|h
  · rw[h];exact hne
  · rw[h];intro e;cases e;omega
 obtain⟨ao,n',cap,rfl⟩:=Xl (bs:=bs++Lib.runeCells r) hown'
 have d1:w2.cell? ⟨b,1,none⟩=some (.slice a0 n0 p0):=Za hb2 1
 have f1:w2.frozen? ⟨b,1,none⟩=false:=Zd hb2 1
 have P:=hid (And.intro hb2 (And.intro hk2 (And.intro hi2 (And.intro hgain (And.intro hne' hown')))))
 clear hown' hgrow hbk' hown hbk hb2 hk2 hi2 hgain hne' hk1 hi1 hs1 hat
 go_wp2
 go_ret2
 obtain⟨hb2,hk2,hi2,hgain,hne',hown'⟩:=P.out
 have hk3:=(Zb.refl (fun k=>k=b) w2).setCell (p:=⟨b,1,none⟩) (.inl rfl) (.slice ao n' cap)
 refine⟨_,_,rfl,⟨.inr ?_,hk3.row hown' (fun k e e2=>hne' (e2 ▸ e)),hne'⟩,hk2.setCell (p:=⟨b,1,none⟩) (.inl (.inl rfl)) _,hgain,hi2.trans (ZH.setCell _ hb2)⟩
 rw[heap_setCell_same w2 _ 1 _ _ _ hb2]
 rfl
end
section
open Go.RowKit
section
variable {w:World} {F:Nat→Prop} {bd bn cap:Nat} {rn:List RN} {rv:Value} {s:List Nd} {rs:List Sp}
theorem rread_no (hD:Zf w F bd bn cap rn rv s rs) (r:Int) (h:r < 0∨(rs.length:Int)≤r) :
 Calls Tryz.prog 85 #[.pointer (some ⟨bd,0,none⟩),.int .i64 r] w fun e w'=>e=.returned (.tuple #[.string ⟨#[]⟩,Zi r 8])∧Below w.heap.size w w':=by
 have CR:=hid (fun W (hb:Below w.heap.size w W)=>ZaU (hD.below hb) r h)
 have h1b:((8:Int) == 0)=false:=rfl
 have HB0:Hid (Below w.heap.size w (w.alloc (.cells #[.int .i64 0,.int .i64 0] 32))):=(Below.refl _ w).alloc (Nat.le_refl _) _
 have HF0:=hid (heap_alloc_new w (.cells #[.int .i64 0,.int .i64 0] 32))
 clear hD h
 go_enter Tryz.func85,Tryz.ntmps85
 go_wp2_with (first
  | (go_at_call 131;refine(CR.out _ HB0.out).mono ?_;rintro e w1 ⟨rfl,hb1⟩
     have H1:=hid hb1
     have hs1:=hb1.size
     clear hb1)
  | (go_at_call 124;refine(Zy r 8 _).mono ?_;rintro e w2 ⟨rfl,hb2⟩
     have hf2:w2.heap[w1.heap.size]?=some (.cells #[.int .i64 r,.int .i64 8] 32 (0,0)):=(hb2.block _ (by simp)).trans (heap_alloc_new w1 _)
     have hB2:Below (w.alloc (.cells #[.int .i64 0,.int .i64 0] 32)).heap.size (w.alloc (.cells #[.int .i64 0,.int .i64 0] 32)) w2:=(H1.out.alloc H1.out.size _).trans (hb2.mono (Nat.le_trans H1.out.size (by simp)))
     have s1:=(hB2.block w.heap.size (by simp)).trans HF0.out
     have cf0:w2.cell? ⟨w1.heap.size,0,none⟩=some (.int .i64 r):=Za hf2 0
     have cf1:w2.cell? ⟨w1.heap.size,1,none⟩=some (.int .i64 8):=Za hf2 1
     have za0:w2.cell? ⟨w.heap.size,0,none⟩=some (.int .i64 0):=Za s1 0
     have za1:w2.cell? ⟨w.heap.size,1,none⟩=some (.int .i64 0):=Za s1 1
     have fa0:=Zd s1 0
     have fa1:=Zd s1 1
     have hsa:=Zc s1
     have hsf:=Zc hf2
     have hne:¬ w1.heap.size=w.heap.size:=by simp at hs1;omega
     have HB2:=hid (HB0.out.trans (hB2.mono HB0.out.size))
     clear hb2 hf2 hB2 s1
     rw[h1b]))
 go_region
 all_goals
  go_wp2
  refine bodyPost_ret (v:=.tuple #[.string ⟨#[]⟩,Zi r 8]) (by simp[results,Tryz.results85,go_sem, *]) rfl ?_
  refine⟨rfl,?_⟩
  have hB:=HB2.out
  have hz:=hB.size
  go_grown
theorem rread_ok (wf:WF s) {h:Nat→Nat} {B:Nat} (u:Up s h B) (hD:Zf w F bd bn cap rn rv s rs) (r a b c d t i j:Nat) (hx:rs[r]?=some ⟨a,b,c,d⟩) (ha:a < s.length) (ta:Zm s a t) (hi:(plF s (B+1) t)[i]?=some (a,b)) (hj:(plF s (B+1) t)[j]?=some (c,d)) (hij:i≤j) :
 Calls Tryz.prog 85 #[.pointer (some ⟨bd,0,none⟩),.int .i64 (r:Int)] w fun e w'=>e=.returned (.tuple #[.string (catB (YA s (plF s (B+1) t) i (j - i))),Zi 0 0])∧Below w.heap.size w w':=by
 have hr:r<rs.length:=(List.getElem?_eq_some_iff.1 hx).1
 have CR:=hid (fun W (hb:Below w.heap.size w W)=>YU (hD.below hb) r hr)
 have CT:=hid (fun W (hb:Below w.heap.size w W)=>Za2 wf (hD.below hb) a ha)
 have CP:=hid (fun W (hb:Below w.heap.size w W)=>ZbZ wf u (B+1) t ta.lt (by have:=u.le t;omega) W (hD.below hb))
 have HLEN:=Nat.le_trans (ZaL wf (B+1) t ta.lt) (Nat.mul_le_mul_left 41 (Yr wf (B+1) t ta.lt))
 have h1b:((0:Int) == 0)=true:=rfl
 have hlt:=hD.lt
 have hrv:=hD.rangesCell
 obtain⟨g,rc,hrve⟩:∃ g c,rv=.slice (some ⟨g,0,none⟩) rs.length c:=by
  rcases ZB hD.ranges with ⟨_,h0⟩|⟨g,c,h⟩
  · omega
  · exact⟨g,c,h⟩
 have hrow:=hD.ranges
 rw[hrve] at hrv hrow
 have hgl:g<w.heap.size:=(hrow.lt g rfl).2
 have e0:w.cell? ⟨g,r*4,none⟩=some (.int .i64 (a:Int)):=by have:=hrow.cellAt (r*4+0) (by omega);rw[ZX rs r _ hx 0 (by omega)] at this;simpa[Sp.cells] using this
 have e1:w.cell? ⟨g,r*4+1,none⟩=some (.int .i64 (b:Int)):=by have:=hrow.cellAt (r*4+1) (by omega);rw[ZX rs r _ hx 1 (by omega)] at this;simpa[Sp.cells] using this
 have e2:w.cell? ⟨g,r*4+2,none⟩=some (.int .i64 (c:Int)):=by have:=hrow.cellAt (r*4+2) (by omega);rw[ZX rs r _ hx 2 (by omega)] at this;simpa[Sp.cells] using this
 have e3:w.cell? ⟨g,r*4+3,none⟩=some (.int .i64 (d:Int)):=by have:=hrow.cellAt (r*4+3) (by omega);rw[ZX rs r _ hx 3 (by omega)] at this;simpa[Sp.cells] using this
 have HB0:Hid (Below w.heap.size w (w.alloc (.cells #[.int .i64 0,.int .i64 0] 32))):=(Below.refl _ w).alloc (Nat.le_refl _) _
 have HF0:=hid (heap_alloc_new w (.cells #[.int .i64 0,.int .i64 0] 32))
 have HD:=hid hD
 have TA:=hid ta
 clear hD hrow hx ta
 go_enter Tryz.func85,Tryz.ntmps85
 go_wp2_with (first
  | (go_at_call 131;refine(CR.out _ HB0.out).mono ?_;rintro e w1 ⟨rfl,hb1⟩
     have H1:=hid hb1
     have hs1:=hb1.size
     clear hb1)
  | (go_at_call 124;refine(Zy 0 0 _).mono ?_;rintro e w2 ⟨rfl,hb2⟩
     have hf2:w2.heap[w1.heap.size]?=some (.cells #[.int .i64 0,.int .i64 0] 32 (0,0)):=(hb2.block _ (by simp)).trans (heap_alloc_new w1 _)
     have hB2:Below (w.alloc (.cells #[.int .i64 0,.int .i64 0] 32)).heap.size (w.alloc (.cells #[.int .i64 0,.int .i64 0] 32)) w2:=(H1.out.alloc H1.out.size _).trans (hb2.mono (Nat.le_trans H1.out.size (by simp)))
     have s1:=(hB2.block w.heap.size (by simp)).trans HF0.out
     have HF2:=hid (And.intro hf2 s1)
     have hsa:=Zc s1
     have hsf:=Zc hf2
     have hne:¬ w1.heap.size=w.heap.size:=by simp at hs1;omega
     have HB2:=hid (HB0.out.trans (hB2.mono HB0.out.size))
     have d0:=(HB2.out.cell (p:=⟨bd,1,none⟩) hlt.1).trans hrv
     have m0:=(HB2.out.cell (p:=⟨g,r*4,none⟩) hgl).trans e0
     have m1:=(HB2.out.cell (p:=⟨g,r*4+1,none⟩) hgl).trans e1
     have m2:=(HB2.out.cell (p:=⟨g,r*4+2,none⟩) hgl).trans e2
     have m3:=(HB2.out.cell (p:=⟨g,r*4+3,none⟩) hgl).trans e3
     have HB3:=hid (HB2.out.alloc HB2.out.size (.cells #[.int .i64 (a:Int),.int .i64 (b:Int),.int .i64 (c:Int),.int .i64 (d:Int)] 79))
     have HS3:=hid (heap_alloc_new w2 (.cells #[.int .i64 (a:Int),.int .i64 (b:Int),.int .i64 (c:Int),.int .i64 (d:Int)] 79))
     clear hb2 hf2 hB2 s1
     rw[h1b])
  | (go_at_call 128;refine(CT.out _ HB3.out).mono ?_;rintro e w3 ⟨⟨t',rfl,ht'⟩,hw3⟩
     obtain rfl:=TA.out.one ht'
     replace hw3:=hw3.symm
     subst hw3
     clear ht')
  | (go_at_call 132;refine(CP.out _ HB3.out).mono ?_;rintro e w4 ⟨la,lc,rfl,hr4,hb4⟩
     have hs4:=(hb4.block w2.heap.size (by simp)).trans HS3.out
     have y0:=Za hs4 0
     have y1:=Za hs4 1
     have y2:=Za hs4 2
     have y3:=Za hs4 3
     have hb24:Below w2.heap.size w2 w4:=((Below.refl _ w2).alloc (Nat.le_refl _) _).trans (hb4.mono (by simp))
     have HF4:=hid (And.intro ((hb24.block _ (Zc HF2.out.1)).trans HF2.out.1) (And.intro ((hb24.block _ (Zc HF2.out.2)).trans HF2.out.2) hs4))
     have HB4:=hid (HB3.out.trans (hb4.mono HB3.out.size))
     have hr0:=Jh hr4 (Nat.zero_le _)
     have HR4:=hid hr0
     have hbl:(plF s (B+1) t).length<lots:=by unfold lots;omega
     have CA:=hid (fun W (hb:Below w4.heap.size w4 W)=>XD (plF s (B+1) t) (.slice la (plF s (B+1) t).length lc) a b w4 W hr0 hbl hb)
     have CB:=hid (fun W (hb:Below w4.heap.size w4 W)=>XD (plF s (B+1) t) (.slice la (plF s (B+1) t).length lc) c d w4 W hr0 hbl hb)
     clear hr4 hb4 hs4 hb24 hr0)
  | (go_at_call 133;refine(CB.out _ HB5.out).mono ?_;rintro e w6 ⟨q6,rfl,hq6,hb6⟩
     obtain rfl:q6=(j:Int):=by rw[hq6.wh,Js (Xd wf (B+1) t) hj]
     have HB6:=hid hb6
     clear hb6 hq6)
  | (go_at_call 133;refine(CA.out _ (Below.refl _ w4)).mono ?_;rintro e w5 ⟨q5,rfl,hq5,hb5⟩
     obtain rfl:q5=(i:Int):=by rw[hq5.wh,Js (Xd wf (B+1) t) hi]
     have HB5:=hid hb5
     have hs5:=(hb5.block _ (Zc HF4.out.2.2)).trans HF4.out.2.2
     have z0:=Za hs5 0
     have z1:=Za hs5 1
     have z2:=Za hs5 2
     have z3:=Za hs5 3
     clear hb5 hq5 hs5))
 have hjl:j<(plF s (B+1) t).length:=(List.getElem?_eq_some_iff.1 hj).1
 go_loopw [12,13] (fun o q wr=>∃ k:Nat,k≤j - i∧q=.int .i64 ((i+k:Nat):Int)∧o=.string (catB (YA s (plF s (B+1) t) i k))∧Below w6.heap.size w6 wr) (fun _ q _=>j+1 - (intOf q).toNat)
 case atStart=>exact⟨0,Nat.zero_le _,by simp,rfl,Below.refl _ _⟩
 case round =>
  obtain⟨k,hk,rfl,rfl,hb⟩:=hrel
  have hb6:Below w4.heap.size w4 wr:=HB6.out.trans (hb.mono HB6.out.size)
  have hbw:Below w.heap.size w wr:=HB4.out.trans (hb6.mono HB4.out.size)
  have hsz:(catB (YA s (plF s (B+1) t) i k)).size<10000:=by
   have h1:=readR_ch wf (plF s (B+1) t) i k
   have h2:=Z3 _ h1.2
   have h3:=h1.1
   omega
  by_cases hlt:k<j - i
  · have hcI:((i+k:Nat):Int)+1≤(j:Int):=by omega
    obtain⟨m,hm⟩:∃ m,m=i+k:=⟨_,rfl⟩
    have hml:m+1<(plF s (B+1) t).length:=by omega
    obtain⟨p,hp⟩:∃ p,(plF s (B+1) t)[m]?=some p:=⟨_,List.getElem?_eq_getElem (by omega)⟩
    obtain⟨q,hq⟩:∃ q,(plF s (B+1) t)[m+1]?=some q:=⟨_,List.getElem?_eq_getElem hml⟩
    obtain⟨p1,p2⟩:=p
    obtain⟨q1,q2⟩:=q
    have hrw:=(Zb.of_below (F:=fun _=>False) hb6).row HR4.out (fun _ _ e=>e)
    obtain⟨gl,hla⟩:∃ gl,la=some ⟨gl,0,none⟩:=by
     rcases ZB hrw with ⟨_,hl0⟩|⟨g,cc,hgv⟩
     · omega
     · cases hgv;exact⟨_,rfl⟩
    subst hla
    have hgl4:gl<wr.heap.size:=(hrw.lt gl rfl).2
    have l0:wr.cell? ⟨gl,m*2,none⟩=some (.int .i64 (p1:Int)):=by rw[hrw.cellAt (m*2) (by omega),(Jj _ m _ hp).1]
    have l1:wr.cell? ⟨gl,m*2+1,none⟩=some (.int .i64 (p2:Int)):=by rw[hrw.cellAt (m*2+1) (by omega),(Jj _ m _ hp).2]
    have l2:wr.cell? ⟨gl,(m+1)*2,none⟩=some (.int .i64 (q1:Int)):=by rw[hrw.cellAt ((m+1)*2) (by omega),(Jj _ (m+1) _ hq).1]
    have l3:wr.cell? ⟨gl,(m+1)*2+1,none⟩=some (.int .i64 (q2:Int)):=by rw[hrw.cellAt ((m+1)*2+1) (by omega),(Jj _ (m+1) _ hq).2]
    have hp1:p1<s.length:=X5 wf (B+1) t TA.out.lt _ (XU (B+1) t _ (List.mem_of_getElem? hp))
    obtain⟨x,hx⟩:∃ x,s[p1]?=some x:=⟨_,List.getElem?_eq_getElem hp1⟩
    have hDr:=HD.out.below hbw
    have n0:=hDr.nodesCell
    have hnl:=hDr.lt
    obtain⟨rr,hrr,ho,c0,c1,_,_⟩:=hDr.look hx
    obtain⟨a1,d1,hv1⟩:=Zo ho.chars
    rw[hv1] at c1
    have hrow:=ho.chars
    rw[hv1] at hrow
    have hstep:=Zd4 s (plF s (B+1) t) i k
    have hmL:(m:Int)<((plF s (B+1) t).length:Int):=by omega
    have hmL1:(m:Int)+1<((plF s (B+1) t).length:Int):=by omega
    have hp1I:(p1:Int)<(s.length:Int):=by omega
    have hchb:chB s (plF s (B+1) t) (i+k)=if p1=q1∧x.t=true then x.cs[p2]?.toList else []:=by
     unfold chB
     rw[← hm,hp,hq]
     simp only[hx,Option.map_some,Option.some.injEq]
     rw[YZ hx]
    rw[hchb] at hstep
    rw[← hm] at hcI ⊢
    have hm2000:m<2000:=by omega
    have r1:¬ bd=wr.heap.size:=by omega
    have r2:¬ bn=wr.heap.size:=by omega
    have r3:¬ gl=wr.heap.size:=by omega
    have HST:=hid hstep
    have HBR:=hid hb
    have HROW:=hid hrow
    have HTC:=hid (fun (ht:x.t=true) (he:p1=q1)=>Zit (b':=q2) wf hx ht hp (by rw[he];exact hq))
    have HM:=hid hm
    have HCH:=hid (fun ch hc=>Zdo ((wf.chars p1 x hx).2 ch hc))
    generalize hacc:catB (YA s (plF s (B+1) t) i k)=acc at hsz ⊢
    have HACC:=hid hacc
    clear hacc hrw hDr hrr ho hx hp hq hrow hchb hstep hb hb6 hbw hv1 hm
    by_cases he:p1=q1
    · subst he
      cases htx:x.t with
      | false =>
        rw[htx] at c0
        go_wp2
        go_quiet (fail)
        go_wp2
        go_roundw
        case rel =>
         refine⟨k+1,by omega,by have:=HM.out;go_num,?_,Zj ((HBR.out.alloc HBR.out.size _).alloc (by have:=HBR.out.size;simp;omega) _) _⟩
         rw[HST.out,htx,if_neg (fun h=>by cases h.2),List.append_nil,HACC.out]
        case measure=>have:=HM.out;simp[intOf];omega
      | true =>
        rw[htx] at c0
        have hp2:=HTC.out htx rfl
        have hp2I:(p2:Int)<(x.cs.length:Int):=by omega
        obtain⟨ch,hch⟩:∃ ch,x.cs[p2]?=some ch:=⟨_,List.getElem?_eq_getElem hp2⟩
        obtain⟨g1,hg1⟩:∃ g1,a1=some ⟨g1,0,none⟩:=by
         rcases ZB HROW.out with ⟨_,hl0⟩|⟨g,cc,hgv⟩
         · omega
         · cases hgv;exact⟨_,rfl⟩
        subst hg1
        have cc:wr.cell? ⟨g1,p2,none⟩=some (.string ch):=by
         rw[HROW.out.cellAt p2 (by omega)]
         simp[ZF,hch]
        have hg1l:g1<wr.heap.size:=(HROW.out.lt g1 rfl).2
        have r4:¬ g1=wr.heap.size:=by omega
        have hcs:ch.size<2000000:=by have:=HCH.out;have:=this ch (List.mem_of_getElem? hch);omega
        have HC:=hid hch
        clear hch
        go_wp2
        go_quiet (fail)
        go_wp2
        go_quiet (fail)
        go_wp2
        go_roundw
        case rel =>
         have e1:catB [ch]=ch:=by show ByteArray.empty++ch=ch;simp
         refine⟨k+1,by omega,by have:=HM.out;go_num,?_,Zj ((HBR.out.alloc HBR.out.size _).alloc (by have:=HBR.out.size;simp;omega) _) _⟩
         rw[HST.out,htx,if_pos ⟨trivial,rfl⟩,HC.out,Yo,HACC.out,Option.toList_some,e1]
        case measure=>have:=HM.out;simp[intOf];omega
    · have heI:¬ (p1:Int)=(q1:Int):=by omega
      have heD:((p1:Int) == (q1:Int))=false:=by simpa using heI
      have heD2:decide ((p1:Int)=(q1:Int))=false:=by simpa using heI
      go_wp2
      go_quiet (fail)
      go_wp2
      go_roundw
      case rel =>
       refine⟨k+1,by omega,by have:=HM.out;go_num,?_,Zj ((HBR.out.alloc HBR.out.size _).alloc (by have:=HBR.out.size;simp;omega) _) _⟩
       rw[HST.out,if_neg (fun h=>he h.1),List.append_nil,HACC.out]
      case measure=>have:=HM.out;simp[intOf];omega
  · obtain rfl:k=j - i:=by omega
    have hcI:¬ (((i+(j - i):Nat):Int)+1≤(j:Int)):=by omega
    obtain⟨f1,f2,_⟩:=HF4.out
    have g1:=(hb6.block _ (Zc f1)).trans f1
    have g2:=(hb6.block _ (Zc f2)).trans f2
    have cf0:=Za g1 0
    have cf1:=Za g1 1
    have za0:=Za g2 0
    have za1:=Za g2 1
    have fa0:=Zd g2 0
    have fa1:=Zd g2 1
    have hl1:=Zc g1
    have hl2:=Zc g2
    have HBW:=hid hbw
    clear f1 f2 g1 g2 hb hb6 hbw
    go_wp2
    go_region
    all_goals
     go_wp2
     refine bodyPost_ret (v:=.tuple #[.string (catB (YA s (plF s (B+1) t) i (j - i))),Zi 0 0]) (by simp[results,Tryz.results85,go_sem, *]) rfl ?_
     refine⟨rfl,?_⟩
     have hB:=HBW.out
     have hz:=hB.size
     go_grown
end
end
section
open Go
theorem J9 {listed:Array Bool} {j:Nat} (h:listed.getD j true=false):listed.getD j false=false:=by
 rcases Nat.lt_or_ge j listed.size with h'|h'
 · simp[h'] at h ⊢;exact h
 · simp[Array.getElem?_eq_none h'] at h
section
variable {P:Program} {md:Region.Mode} {ops:Array Oper} {C:World→Prop}
def Zab (P:Program) (md:Region.Mode) (ops:Array Oper) (C:World→Prop) (Q:Act→Prop) (z:Nat):Nat→Array Bool→Act→Prop
 | 0,listed,a=>(∀ k,k<ops.size→k≠z→listed.getD k false=true)∧listed.getD z true=false∧Q a
 | fuel+1,listed,a=>Region.ready md ops listed≠[]∧z∉Region.ready md ops listed∧∀ i∈Region.ready md ops listed,qOp P ops C i (Zab P md ops C Q z fuel (listed.setIfInBounds i true)) a
def Jz (md:Region.Mode) (ops:Array Oper) (listed:Array Bool):Prop:=∀ (k:Nat) (ok:Oper),ops[k]?=some ok→listed.getD k false=true→∀ e∈ok.after,Region.binds md e=true→listed.getD e.on false=true
theorem Jz.set {listed:Array Bool} {j:Nat} (h:Jz md ops listed) (hj:j∈Region.ready md ops listed):Jz md ops (listed.setIfInBounds j true):=by
 intro k ok hk hl e he hb
 obtain⟨_,oj,hoj,hall⟩:=mem_ready.1 hj
 by_cases hkj:j=k
 · subst hkj
   rw[hoj] at hk
   cases hk
   exact getD_set_true (hall e he hb)
 · rw[getD_set_ne false hkj] at hl
   exact getD_set_true (h k ok hk hl e he hb)
theorem Zjb {Q:Act→Prop} {i z:Nat} {oi:Oper} {v:Value} (hi:ops[i]?=some oi) (hiz:i≠z) (hsel:∀ (j:Nat) (o:Oper) cs b,ops[j]?=some o→o.op≠.select cs b)
 (hdep:∃ (j:Nat) (oj:Oper),ops[j]?=some oj∧∃ e∈oj.after,Region.binds md e=true∧e.on=i) :
 ∀ (fuel:Nat) (listed:Array Bool) (a:Act),
  (∀ j oj,ops[j]?=some oj→j≠i→listed.getD j true=false→(∀ e∈oj.after,Region.binds md e=true→e.on≠i)→oi.apart ops oj=true) →
  i∈Region.ready md ops listed→Jz md ops listed→YieldsIn P ops C oi v a →
  Zab P md ops C Q z fuel (listed.setIfInBounds i true) (a.put oi.dst v)→Zab P md ops C Q z (fuel+1) listed a:=by
 intro fuel
 induction fuel with
 | zero =>
   intro listed a _ hr hcl hy H
   obtain⟨hun,_,_,hri⟩:=mem_ready.1 hr
   have hun':=J9 hun
   have hnz:z∉Region.ready md ops listed:=by
    intro hz
    obtain⟨j,oj,hoj,e,he,hb,heq⟩:=hdep
    by_cases hjz:j=z
    · subst hjz
      obtain⟨_,oz,hoz,hall⟩:=mem_ready.1 hz
      rw[hoj] at hoz
      cases hoz
      have:=hall e he hb
      rw[heq,hun'] at this
      cases this
    · have hjl:=H.1 j (Array.getElem?_eq_some_iff.1 hoj).1 hjz
      by_cases hji:j=i
      · subst hji
        obtain⟨_,o2,ho2,hall⟩:=mem_ready.1 hr
        rw[hoj] at ho2
        cases ho2
        have:=hall e he hb
        rw[heq,hun'] at this
        cases this
      · rw[getD_set_ne false (Ne.symm hji)] at hjl
        have:=hcl j oj hoj hjl e he hb
        rw[heq,hun'] at this
        cases this
   refine⟨fun h=>(by rw[h] at hr;cases hr),hnz,fun j hj=>?_⟩
   by_cases hji:j=i
   · subst hji;exact hy.qOp hi H
   · exfalso
     obtain⟨hjun,oj,hoj,_⟩:=mem_ready.1 hj
     have hjl:=H.1 j (Array.getElem?_eq_some_iff.1 hoj).1 (fun e=>hnz (e ▸ hj))
     rw[getD_set_ne false (Ne.symm hji),J9 hjun] at hjl
     cases hjl
 | succ fuel ih =>
   intro listed a hfree hr hcl hy H
   refine⟨fun h=>(by rw[h] at hr;cases hr),fun hz=>H.2.1 (ready_mono hz (Ne.symm hiz)),fun j hj=>?_⟩
   by_cases hji:j=i
   · subst hji;exact hy.qOp hi H
   · have h1:=H.2.2 j (ready_mono hj hji)
     obtain⟨hjun,oj,hoj,hall⟩:=mem_ready.1 hj
     have hnot:∀ e∈oj.after,Region.binds md e=true→e.on≠i:=fun e he hb heq=>by
      have h1:=hall e he hb
      rw[heq,J9 (mem_ready.1 hr).1] at h1
      cases h1
     have h2:=qOp_put hoj (hfree j oj hoj hji hjun hnot) (fun cs b=>hsel i oi cs b hi) (fun cs b=>hsel j oj cs b hoj) hy h1
     have hfree':∀ k ok,ops[k]?=some ok→k≠i→(listed.setIfInBounds j true).getD k true=false →
      (∀ e∈ok.after,Region.binds md e=true→e.on≠i)→oi.apart ops ok=true:=fun k ok hk hki hunk hno=>by
      refine hfree k ok hk hki ?_ hno
      by_cases hjk:j=k
      · subst hjk;exact hjun
      · rw[getD_set_ne true hjk] at hunk;exact hunk
     refine qOp_mono (fun a' h3=>ih (listed.setIfInBounds j true) a' hfree' (ready_mono hr (Ne.symm hji)) (hcl.set hj) h3.1 ?_) h2
     rw[Array.setIfInBounds_comm _ _ hji]
     exact h3.2
theorem ZeS {Q:Act→Prop} {Q':Exit→Act→World→Prop} {z:Nat} {oz:Oper} (hoz:ops[z]?=some oz) (hza:∀ e∈oz.after,Region.binds md e=true→e.on < ops.size∧e.on≠z)
 (hQ:∀ a w,C w→Q a→wpOp P ops Q' z (fun a' w'=>Q' .normal a' w') a w):∀ (fuel:Nat) (listed:Array Bool) (a:Act) (w:World),C w →
 Zab P md ops C Q z fuel listed a→wpAny P md ops Q' (fuel+1) listed a w
 | 0,listed,a,w,hw,h=>by
   obtain⟨hall,hzu,hq⟩:=h
   have hzr:z∈Region.ready md ops listed:=mem_ready.2 ⟨hzu,oz,hoz,fun e he hb=>hall e.on (hza e he hb).1 (hza e he hb).2⟩
   refine⟨fun h0=>(by rw[h0] at hzr;cases hzr),fun i hi=>?_⟩
   obtain⟨hiu,oi,hoi,_⟩:=mem_ready.1 hi
   have hiz:i=z:=by
    rcases Nat.decEq i z with h|h
    · have:=hall i (Array.getElem?_eq_some_iff.1 hoi).1 h
      rw[J9 hiu] at this
      cases this
    · exact h
   subst hiz
   refine wpOp_mono (fun a' w' h=>⟨List.eq_nil_iff_forall_not_mem.2 (fun j hj=>?_),h⟩) (hQ a w hw hq)
   obtain⟨hju,oj,hoj,_⟩:=mem_ready.1 hj
   by_cases hji:i=j
   · subst hji
     rcases Nat.lt_or_ge i listed.size with h'|h'
     · simp[h'] at hju
     · simp[Array.getElem?_eq_none h'] at hzu
   · rw[getD_set_ne true hji] at hju
     have:=hall j (Array.getElem?_eq_some_iff.1 hoj).1 (Ne.symm hji)
     rw[J9 hju] at this
     cases this
 | fuel+1,listed,a,w,hw,h=>⟨fun h0=>absurd h0 h.1,fun i hi=>wpOp_of_qOp hw (fun a' w' hw'=>ZeS hoz hza hQ fuel _ a' w' hw') (h.2.2 i hi)⟩
def lexL (md:Region.Mode) (ops:Array Oper):Nat→Nat→Array Bool→Bool
 | 0,_,_=>true
 | n+1,k,listed=>(Region.ready md ops listed).contains k && Region.free md ops listed k && lexL md ops n (k+1) (listed.setIfInBounds k true)
def depB (md:Region.Mode) (ops:Array Oper) (n:Nat):Bool:=(List.range n).all fun i=>ops.any fun o=>o.after.any fun e=>Region.binds md e && e.on == i
theorem depB_at {n:Nat} (h:depB md ops n=true) {i:Nat} (hi:i < n):∃ (j:Nat) (oj:Oper),ops[j]?=some oj∧∃ e∈oj.after,Region.binds md e=true∧e.on=i:=by
 have h1:=List.all_eq_true.1 h i (List.mem_range.2 hi)
 obtain⟨o,ho,h2⟩:=Array.any_eq_true'.1 h1
 obtain⟨e,he,hb⟩:=Array.any_eq_true'.1 h2
 simp only[Bool.and_eq_true,beq_iff_eq] at hb
 obtain⟨j,hj⟩:=Array.getElem?_of_mem ho
 exact⟨j,o,hj,e,he,hb.1,hb.2⟩
theorem ZeR {Q:Act→Prop} {z:Nat} (hs:Region.noSelect ops=true) (hd:depB md ops z=true) (hz:z+1=ops.size):∀ (l:List Oper) (k:Nat) (listed:Array Bool) (a:Act),(∀ j,j < l.length→l[j]?=ops[k+j]?)→k+l.length=z →
 (∀ m,m<k→listed.getD m false=true)→listed.getD z true=false→Jz md ops listed →
 lexL md ops l.length k listed=true→wpQuiet P ops C Q l a→Zab P md ops C Q z l.length listed a
 | [],k,listed,a,_,hk,hb,hzu,_,_,h=>⟨fun m hm hne=>hb m (by simp at hk;omega),hzu,h⟩
 | o::l,k,listed,a,hl,hk,hb,hzu,hcl,hB,h=>by
   have h0:ops[k]?=some o:=by simpa using (hl 0 (by simp)).symm
   simp only[List.length_cons,lexL,Bool.and_eq_true] at hB
   obtain⟨⟨hr,hf⟩,hB'⟩:=hB
   have hr':k∈Region.ready md ops listed:=by simpa using hr
   have hkz:k≠z:=by simp at hk;omega
   have hst:qOp P ops C k (wpQuiet P ops C Q l) a:=by unfold qOp;simp only[h0];exact h
   obtain⟨v,hy,hK⟩:=yieldsIn_of_qOp h0 hst
   refine Zjb h0 hkz (Region.noSelect_spec hs) (depB_at hd (by simp at hk;omega)) l.length listed a (Region.free_spec h0 hf) hr' hcl hy
    (ZeR hs hd hz l (k+1) _ _ (fun j hj=>by have:=hl (j+1) (by simp;omega);simpa[Nat.add_assoc,Nat.add_comm 1 j] using this) (by simp at hk;omega) (fun m hm=>?_) (by rw[getD_set_ne true hkz];exact hzu) (hcl.set hr') hB' hK)
   by_cases hmk:k=m
   · subst hmk
     have:=(mem_ready.1 hr').1
     rcases Nat.lt_or_ge k listed.size with h'|h'
     · simp[h']
     · simp[Array.getElem?_eq_none h'] at this
   · exact getD_set_true (hb m (by omega))
def lastB (l:List Oper) (oz:Oper):Bool:=Region.noSelect l.toArray && depB .any l.toArray (l.length - 1) && lexL .any l.toArray (l.length - 1) 0 (Array.replicate l.length false) && oz.after.all fun e=>!Region.binds .any e || (e.on < l.length && e.on != l.length - 1)
theorem ZeU {id:Nat} {Q:Exit→Act→World→Prop} {a:Act} {w:World} {l:List Oper} {oz:Oper} (hl:l.getLast?=some oz) (hm:P.follows .mixedOrders=true) (hB:lastB l oz=true)
 (h:wpQuiet P l.toArray (fun w'=>∃ n,w'=w.drewN n) (fun a'=>∀ w',(∃ n,w'=w.drewN n)→wpList P l.toArray Q [oz] a' w') l.dropLast a):(Code.region id l.toArray true).wp P Q a w:=by
 simp only[lastB,Bool.and_eq_true] at hB
 obtain⟨⟨⟨hs,hd⟩,hx⟩,haz⟩:=hB
 have hne:l≠[]:=fun e=>by rw[e] at hl;cases hl
 have hlen:0<l.length:=List.length_pos_iff.2 hne
 have hoz:l.toArray[l.length - 1]?=some oz:=by rw[List.getElem?_toArray,← List.getLast?_eq_getElem?];exact hl
 refine wp_region_any hm ?_
 have hsz:l.toArray.size=(l.length - 1)+1:=by simp;omega
 rw[hsz]
 refine ZeS (C:=fun w'=>∃ n,w'=w.drewN n) (Q:=fun a'=>∀ w',(∃ n,w'=w.drewN n)→wpList P l.toArray Q [oz] a' w') hoz ?_ ?_ _ _ _ _ ⟨1,rfl⟩ ?_
 · intro e he hb
   have:=Array.all_eq_true_iff_forall_mem.1 haz e he
   simp[hb] at this
   exact⟨by simpa using this.1,this.2⟩
 · intro a w1 hw hq
   unfold wpOp
   rw[hoz]
   exact hq w1 hw
 · have hk:=ZeR (P:=P) (C:=fun w'=>∃ n,w'=w.drewN n) (md:=.any) (ops:=l.toArray) (z:=l.length - 1) (Q:=fun a'=>∀ w',(∃ n,w'=w.drewN n)→wpList P l.toArray Q [oz] a' w') hs hd (by simp;omega) l.dropLast 0 (Array.replicate l.length false) a (fun j hj=>?_) (by simp) (fun m hm=>by omega) (by simp[Array.getElem?_replicate,show l.length - 1<l.length by omega]) (fun k ok hk hl2=>by
    exfalso
    rcases Nat.lt_or_ge k l.length with h'|h'
    · simp[h'] at hl2
    · simp[h'] at hl2) (by simpa using hx) h
   have e1:Array.replicate (l.length - 1+1) false=Array.replicate l.length false:=by rw[Nat.sub_add_cancel hlen]
   rw[e1]
   simpa using hk
   · rw[List.length_dropLast] at hj
     rw[List.getElem?_toArray,Nat.zero_add,List.getElem?_dropLast,if_pos hj]
end
end
end Go.Proofs.YtabogkonklplcaaGreatDoor
