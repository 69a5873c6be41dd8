import Derived.Test.YtabogkonklplcaaGreatDoorH20
import Derived.Lib.Builder
import Derived.Lib.AppendStr
import Derived.Lib.UnsafeStr
import Derived.Lib.Walk
import Derived.Lib.RuneBytes
import Derived.Laws.Externs
import Derived.Shelf.Strings.BuilderX
import Derived.Test.YtabogkonklplcaaGreatDoorH21
import Derived.Test.YtabogkonklplcaaGreatDoorH22
namespace Go.Proofs.YtabogkonklplcaaGreatDoor
set_option linter.unusedSimpArgs false
set_option linter.unusedVariables false
set_option maxRecDepth 20000
set_option maxHeartbeats 8000000
section
open Go.RowKit
abbrev Bld (B b:Nat) (bs:List Value) (w:World):Prop:=Lib.IsBuilder 219 5 B b bs w
abbrev BldU (B b:Nat) (bs:List Value) (w:World):Prop:=Lib.BuilderAt 219 5 B b (ptr b) bs w
theorem Tryz.sizeBld:(Tryz.prog.info? 219).map (·.size)=some 2:=by kernel_rfl
set_option maxRecDepth 100000 in
theorem Zcx (b:Nat) (w:World) (h0:w.cell? ⟨b,0,none⟩=some (ptr b)) :
 Calls Tryz.prog 184 #[ptr b] w fun e w'=>e=.returned (.tuple #[])∧w'=w:=by
 obtain⟨j,hj,_⟩:=Option.map_eq_some_iff.1 Tryz.sizeBld
 go_enter Tryz.func184,Tryz.ntmps184
 go_wp2
 rw[Lib.run_neq_ptr_same w _ Tryz.underlying216 hj]
 go_wp2
 go_end0
 exact⟨rfl,rfl⟩
set_option maxRecDepth 100000 in
theorem Zcw (b:Nat) (w:World) (h0:w.cell? ⟨b,0,none⟩=some (.pointer none)) (hsh:w.shape? b=some (219,2)) (hfz:w.frozen? ⟨b,0,none⟩=false) :
 Calls Tryz.prog 184 #[ptr b] w fun e w'=>e=.returned (.tuple #[])∧w'=w.setCell ⟨b,0,none⟩ (ptr b):=by
 obtain⟨j,hj,hjs⟩:=Option.map_eq_some_iff.1 Tryz.sizeBld
 go_enter Tryz.func184,Tryz.ntmps184
 go_wp2
 rw[Lib.run_to_unsafe w ⟨b,0,none⟩ Tryz.underlying216 Tryz.underlying203 hj (by rw[hjs];decide) hsh (Nat.zero_lt_succ 1)]
 simp only[Result.andThen]
 rw[Oper.upon_value]
 go_wp2
 rw[run_callFunc_extern Tryz.func195 (by kernel_rfl) (by kernel_rfl) (by kernel_rfl) (e:=Extern.AbiNoEscape.same) (by kernel_rfl)]
 rw[Lib.run_noEscape]
 simp only[Result.andThen]
 rw[Oper.upon_value]
 go_wp2
 rw[Lib.run_from_unsafe w ⟨b,0,none⟩ Tryz.underlying203 Tryz.underlying216 hj hsh (by kernel_rfl)]
 simp only[Result.andThen]
 rw[Oper.upon_value]
 go_wp2
 go_end0
 exact⟨rfl,rfl⟩
def ZH (w w':World):Prop:=∀ (k:Nat) (t:ByteArray) (p:Nat),w.heap[k]?=some (.stringIter t p)→w'.heap[k]?=some (.stringIter t p)
theorem ZH.refl (w:World):ZH w w:=fun _ _ _ h=>h
theorem ZH.trans {a b c:World} (h:ZH a b) (g:ZH b c):ZH a c:=fun k t p hk=>g k t p (h k t p hk)
theorem ZH.alloc (w:World) (o:Obj):ZH w (w.alloc o):=fun k t p hk=>by rw [Below.heap_alloc _ _ _ (Zc hk)];exact hk
theorem ZH.setCell {w:World} {b o:Nat} {cur:Array Value} {e:TypeId} {fz:Nat × Nat} (v:Value) (hb:w.heap[b]?=some (.cells cur e fz)):ZH w (w.setCell ⟨b,o,none⟩ v):=fun k t p hk=>by
 have hne:k≠b:=fun e=>by subst e;rw[hb] at hk;cases hk
 have h:=(Zb.refl (fun x=>x=b) w).setCell (p:=⟨b,o,none⟩) (.inl rfl) v
 rw[h.block k (Zc hk) hne];exact hk
theorem ZH.grown {w w':World} {B:Nat} {v:Value} {n:Nat} {xs:List Value} {e:TypeId} {z:Nat} (hown:w.ownsRow B e z v n xs) (hg:w.grownBy w' v.ownBlock):ZH w w':=fun k t p hk=>by
 rw[hg.block k (Zc hk) ?_]
 · exact hk
 · intro e
   rcases hown.2 with ⟨hv,_⟩|⟨g,cap,cur,hv,_,hh,_⟩
   · rw[hv] at e;cases e
   · rw[hv] at e
     cases e
     rw[hh] at hk;cases hk
theorem Zbk {B b:Nat} {bs:List Value} {w:World} (h:Bld B b bs w) :
 Calls Tryz.prog 184 #[ptr b] w fun e w'=>e=.returned (.tuple #[])∧BldU B b bs w'∧Below B w w'∧ZH w w':=by
 rcases h with h|h
 · refine(Zcw b w h.cell0 h.shape h.frozen0).mono ?_
   rintro e w' ⟨rfl,rfl⟩
   have h2:=h
   obtain⟨_,v,hb,_⟩:=h2
   exact⟨rfl,h.used _,(Below.refl B w).setCell (p:=⟨b,0,none⟩) h.1 _,ZH.setCell _ hb⟩
 · refine(Zcx b w h.cell0).mono ?_
   rintro e w' ⟨rfl,rfl⟩
   exact⟨rfl,h,Below.refl B _,ZH.refl _⟩
end
section
open Go.RowKit
theorem Tryz.info5:(Tryz.prog.info? 5).map (fun i=>(i.zero,i.size,i.bytes))=some (some (.int .u8 0),1,1):=by kernel_rfl
theorem Zbl {B b:Nat} {bs bs':List Value} {v v':Value} {w0 w1 w2:World} (hB:B≤b) (hbk:w1.heap[b]?=some (.cells #[ptr b,v] 219 (0,0))) (hne:v.ownBlock≠some b) (hown:w1.ownsRow B 5 1 v bs.length bs)
 (h01:Below B w0 w1) (hik:ZH w0 w1) (hBw:B≤w1.heap.size) (hg:w1.grownBy w2 v.ownBlock) (hown':w2.ownsRow B 5 1 v' bs'.length bs') :
 BldU B b bs' (w2.setCell ⟨b,1,none⟩ v')∧(Below B w0 (w2.setCell ⟨b,1,none⟩ v')∧ZH w0 (w2.setCell ⟨b,1,none⟩ v'))∧w2.heap[b]?=some (.cells #[ptr b,v] 219 (0,0)):=by
 have hb2:w2.heap[b]?=some (.cells #[ptr b,v] 219 (0,0)):=by
  rw[hg.block b (Zc hbk) (fun e=>hne e.symm)]
  exact hbk
 exact⟨Lib.BuilderAt.put hB hb2 hown' (by decide),⟨(h01.grown hg hBw (fun k hk=>(hown.lt k hk).1)).setCell (p:=⟨b,1,none⟩) hB _,(hik.trans (ZH.grown hown hg)).trans (ZH.setCell _ hb2)⟩,hb2⟩
theorem Xk {B:Nat} {bs:List Value} {v:Value} {w:World} (h:w.ownsRow B 5 1 v bs.length bs):∃ a n c,v=.slice a n c:=by
 rcases h.2 with ⟨hv,_⟩|⟨g,cap,cur,hv,_⟩
 · exact⟨_,_,_,hv⟩
 · exact⟨_,_,_,hv⟩
set_option maxRecDepth 100000 in
theorem X6 {B b:Nat} {bs:List Value} (c:Int) {w:World} (h:Bld B b bs w) (hlen:bs.length < lots) (hBw:B≤w.heap.size) :
 Calls Tryz.prog 177 #[ptr b,.int .u8 c] w fun e w'=>e=.returned .nilIface∧BldU B b (bs++[.int .u8 c]) w'∧Below B w w'∧ZH w w':=by
 obtain⟨i0,hi,hz0,hz1,hz2⟩:=info_parts Tryz.info5
 have C:=hid (Zbk h)
 clear h
 go_enter Tryz.func177,Tryz.ntmps177
 go_wp2_with (go_at_call 184;refine C.out.mono ?_)
 rintro e w1 ⟨rfl,h1,hb1,hk1⟩
 obtain⟨hB,v,hbk,hown,hne⟩:=h1
 have hsz:=hb1.size
 obtain⟨a0,n0,p0,rfl⟩:=Xk hown
 have c1:w1.cell? ⟨b,1,none⟩=some (.slice a0 n0 p0):=Za hbk 1
 have hbn:¬ b=w1.heap.size:=by have:=Zc hbk;omega
 go_wp2_with (at_builtin;refine wpList_append_own _ rfl _ _ 217 rfl B 5 i0 (.int .u8 0) 1 1 Tryz.underlying217 hi hz0 hz1 hz2 rfl (by decide) (.slice a0 n0 p0) _ _ rfl (hown.alloc _) ⟨w1.heap.size,0,none⟩ 1 1 [.int .u8 c] rfl rfl (cell_one_new _ _ _) (by simp[Value.oneCell']) (by unfold maxLen;unfold lots at hlen;omega) (by unfold lots at hlen;omega) (by simp;omega) ?_)
 intro v' w2 hown' hgrow _
 have hbk':(w1.alloc (.cells #[.int .u8 c] 5)).heap[b]?=some (.cells #[ptr b,.slice a0 n0 p0] 219 (0,0)):=by rw[Below.heap_alloc _ _ _ (Zc hbk)];exact hbk
 have P:=hid (Zbl (bs':=bs++[.int .u8 c]) hB hbk' hne (hown.alloc _) (hb1.alloc (by omega) _) (hk1.trans (ZH.alloc _ _)) (by simp;omega) hgrow (by simpa using hown'))
 obtain⟨ao,n',cap,rfl⟩:=Xk (bs:=bs++[.int .u8 c]) (by simpa using hown')
 have d1:w2.cell? ⟨b,1,none⟩=some (.slice a0 n0 p0):=Za P.out.2.2 1
 have f1:w2.frozen? ⟨b,1,none⟩=false:=Zd P.out.2.2 1
 clear hown' hgrow hbk' hown hbk hne
 go_wp2
 go_ret
 exact⟨rfl,P.out.1,P.out.2.1⟩
set_option maxRecDepth 100000 in
theorem ZcA {B b:Nat} {bs:List Value} (s:ByteArray) {w:World} (h:Bld B b bs w) (hlen:bs.length+s.size < lots) (hBw:B≤w.heap.size) :
 Calls Tryz.prog 174 #[ptr b,.string s] w fun e w'=>e=.returned (.tuple #[.int .i64 s.size,.nilIface])∧BldU B b (bs++Lib.strCells s) w'∧Below B w w'∧ZH w w':=by
 obtain⟨i0,hi,hz0,hz1,hz2⟩:=info_parts Tryz.info5
 have C:=hid (Zbk h)
 clear h
 go_enter Tryz.func174,Tryz.ntmps174
 go_wp2_with (go_at_call 184;refine C.out.mono ?_)
 rintro e w1 ⟨rfl,h1,hb1,hk1⟩
 obtain⟨hB,v,hbk,hown,hne⟩:=h1
 have hsz:=hb1.size
 obtain⟨a0,n0,p0,rfl⟩:=Xk hown
 have c1:w1.cell? ⟨b,1,none⟩=some (.slice a0 n0 p0):=Za hbk 1
 go_wp2_with (at_builtin;refine Lib.wpList_append_own_string _ rfl _ _ 217 9 rfl B 5 i0 Tryz.underlying217 Tryz.underlying9 hi hz0 hz1 hz2 (.slice a0 n0 p0) _ _ rfl hown s rfl (by unfold maxLen;unfold lots at hlen;omega) (by unfold lots at hlen;omega) (by omega) ?_)
 intro v' w2 hown' hgrow _
 have P:=hid (Zbl (bs':=bs++Lib.strCells s) hB hbk hne hown hb1 hk1 (by omega) hgrow (by simpa[Lib.strCells_length] using hown'))
 obtain⟨ao,n',cap,rfl⟩:=Xk (bs:=bs++Lib.strCells s) (by simpa[Lib.strCells_length] using hown')
 have d1:w2.cell? ⟨b,1,none⟩=some (.slice a0 n0 p0):=Za P.out.2.2 1
 have f1:w2.frozen? ⟨b,1,none⟩=false:=Zd P.out.2.2 1
 clear hown' hgrow hown hbk hne
 go_wp2
 go_ret2
 exact⟨rfl,P.out.1,P.out.2.1⟩
def ZeY (B b:Nat) (bs:List Value) (w:World) (e:Ending) (w':World):Prop:=∃ n:Int,e=.returned (.tuple #[.int .i64 n,.nilIface])∧BldU B b bs w'∧Below B w w'∧ZH w w'
set_option maxRecDepth 100000 in
theorem Zcz {B b:Nat} {bs:List Value} (r:Int) (hr0:0≤r) (hr1:r≤2147483647) {w:World} (h:Bld B b bs w) (hlen:bs.length < lots) (hBw:B≤w.heap.size) :
 Calls Tryz.prog 160 #[ptr b,.int .i32 r] w (ZeY B b (bs++Lib.runeCells r) w):=by
 have C:=hid (Zbk h)
 clear h
 go_enter Tryz.func160,Tryz.ntmps160
 go_wp2_with (go_at_call 184;refine C.out.mono ?_)
 rintro e w1 ⟨rfl,h1,hb1,hk1⟩
 obtain⟨hB,v,hbk,hown,hne⟩:=h1
 have hsz:=hb1.size
 obtain⟨a0,n0,p0,rfl⟩:=Xk hown
 have c1:w1.cell? ⟨b,1,none⟩=some (.slice a0 n0 p0):=Za hbk 1
 have A1:=hid (Tryz.utf8_AppendRune_plain B (.slice a0 n0 p0) bs.length bs r (by omega) hr1 w1 hown (by unfold lots at hlen;omega) (by omega))
 go_wp2_with (go_at_call 185;refine A1.out.mono ?_)
 rintro e w2 ⟨v',rfl,hown',o,hgrow⟩
 have hbk':(w1.alloc o).heap[b]?=some (.cells #[ptr b,.slice a0 n0 p0] 219 (0,0)):=by rw[Below.heap_alloc _ _ _ (Zc hbk)];exact hbk
 have P:=hid (Zbl (bs':=bs++Lib.runeCells r) hB hbk' hne (hown.alloc _) (hb1.alloc (by omega) _) (hk1.trans (ZH.alloc _ _)) (by simp;omega) hgrow (by simpa using hown'))
 obtain⟨ao,n',cap,rfl⟩:=Xk (bs:=bs++Lib.runeCells r) (by simpa using hown')
 have d1:w2.cell? ⟨b,1,none⟩=some (.slice a0 n0 p0):=Za P.out.2.2 1
 have f1:w2.frozen? ⟨b,1,none⟩=false:=Zd P.out.2.2 1
 clear hown' hgrow hbk' hown hbk hne
 go_wp2
 go_ret2
 exact⟨_,rfl,P.out.1,P.out.2.1⟩
end
section
def wh:List (Nat × Nat)→Nat × Nat→Int
 | [],_=>-1
 | a::l,p=>if p=a then 0 else if wh l p<0 then -1 else wh l p+1
theorem YV (l:List (Nat × Nat)) (p:Nat × Nat):ZJ l p (wh l p):=by
 induction l with
 | nil=>exact .inr ⟨rfl,by simp⟩
 | cons a l ih =>
   unfold wh
   by_cases h:p=a
   · rw[if_pos h]
     exact .inl ⟨0,rfl,by simp[h],by simp⟩
   · rw[if_neg h]
     rcases ih with ⟨m,e,h1,h2⟩|⟨e,h1⟩
     · rw[e,if_neg (by omega)]
       exact .inl ⟨m+1,by omega,by simpa using h1,by simp[h2,h]⟩
     · rw[e,if_pos (by omega)]
       exact .inr ⟨rfl,by simp[h,h1]⟩
theorem ZaG {α:Type} {l:List α} {m k:Nat} {p:α} (h:l[m]?=some p) (hk:m < k):p∈l.take k :=
 List.mem_of_getElem? (i:=m) (by rw[List.getElem?_take,if_pos hk];exact h)
theorem ZJ.alone {l:List (Nat × Nat)} {p:Nat × Nat} {q q':Int} (h:ZJ l p q) (h':ZJ l p q'):q=q':=by
 rcases h with ⟨m,rfl,h1,h2⟩|⟨rfl,h1⟩ <;> rcases h' with ⟨m',rfl,h3,h4⟩|⟨rfl,h3⟩
 · rcases Nat.lt_trichotomy m m' with e|e|e
   · exact absurd (ZaG h1 e) h4
   · rw[e]
   · exact absurd (ZaG h3 e) h2
 · exact absurd (List.mem_of_getElem? h1) h3
 · exact absurd (List.mem_of_getElem? h3) h1
 · rfl
theorem ZJ.wh {l:List (Nat × Nat)} {p:Nat × Nat} {q:Int} (h:ZJ l p q):q=wh l p:=h.alone (YV l p)
theorem Jp {l:List (Nat × Nat)} (hn:l.Nodup) {i:Nat} {p:Nat × Nat} (h:l[i]?=some p):wh l p=i:=by
 refine(ZJ.alone (.inl ⟨i,rfl,h,fun hm=>?_⟩) (YV l p)).symm
 obtain⟨j,hj⟩:=List.mem_iff_getElem?.1 hm
 rw[List.getElem?_take] at hj
 split at hj
 · rename_i hlt
   obtain⟨h1,h2⟩:=List.getElem?_eq_some_iff.1 h
   obtain⟨h3,h4⟩:=List.getElem?_eq_some_iff.1 hj
   exact List.pairwise_iff_getElem.1 hn j i h3 h1 hlt (h4.trans h2.symm)
 · cases hj
theorem Zci {l:List (Nat × Nat)} {p:Nat × Nat} (h:p∈l):∃ i:Nat,wh l p=i∧l[i]?=some p:=by
 rcases YV l p with ⟨m,e,h1,_⟩|⟨_,h1⟩
 · exact⟨m,e,h1⟩
 · exact absurd h h1
def cov (L:List (Nat × Nat)) (a b c d n k:Nat):Bool:=decide (wh L (a,b)≤wh L (n,k)) && decide (wh L (n,k+1)≤wh L (c,d))
def csOf (s:List Nd) (n:Nat):List ByteArray:=match s[n]? with | some x=>x.cs | none=>[]
theorem YY {s:List Nd} {n:Nat} {x:Nd} (h:s[n]?=some x):csOf s n=x.cs:=by simp [csOf,h]
def pk (cs:List ByteArray) (c:Nat→Bool) (k:Nat):List ByteArray:=(List.range k).flatMap fun b=>if c b then cs[b]?.toList else []
theorem pk_zero (cs:List ByteArray) (c:Nat→Bool):pk cs c 0=[]:=rfl
theorem ZbX (cs:List ByteArray) (c:Nat→Bool) (k:Nat):pk cs c (k+1)=pk cs c k++(if c k then cs[k]?.toList else []):=by simp [pk,List.range_succ]
def Yf (s:List Nd) (L:List (Nat × Nat)) (a b c d:Nat) (ns:List Nat):List ByteArray:=ns.flatMap fun n=>pk (csOf s n) (cov L a b c d n) (csOf s n).length
def chB (s:List Nd) (L:List (Nat × Nat)) (i:Nat):List ByteArray :=
 match L[i]?,L[i+1]? with
 | some p,some q=>if p.1=q.1∧(s[p.1]?.map (·.t))=some true then (csOf s p.1)[p.2]?.toList else []
 | _,_=>[]
def Yz (s:List Nd) (L:List (Nat × Nat)) (i:Nat) (m:Nat):List ByteArray:=(List.range m).flatMap fun j=>chB s L (i+j)
theorem Zd2 (s:List Nd) (L:List (Nat × Nat)) (i m:Nat):Yz s L i (m+1)=Yz s L i m++chB s L (i+m):=by simp [Yz,List.range_succ]
theorem Zf7 {α β:Type} {l:List α} {f:α→List β} {a:α} {z:List β} (ha:a∈l) (h:z <:+: f a):z <:+: l.flatMap f:=by
 obtain⟨x,y,rfl⟩:=List.append_of_mem ha
 rw[List.flatMap_append,List.flatMap_cons]
 exact h.trans ⟨x.flatMap f,y.flatMap f,by simp⟩
theorem Zcc {s:List Nd} (wf:WF s) {n b:Nat} {x:Nd} (hx:s[n]?=some x) (ht:x.t=true) (hb:b < x.cs.length):∀ (k m:Nat),(n,b)∈plF s k m→[(n,b),(n,b+1)] <:+: plF s k m:=by
 intro k
 induction k with
 | zero=>intro m h;simp[plF] at h
 | succ k ih =>
   intro m h
   by_cases hm:m=n
   · subst hm
     have hk:ZD s m=[]:=by rw[Yp hx];exact(wf.elem m x hx).1 ht
     have e:x.cs.length+1=b+(2+(x.cs.length - b - 1)):=by omega
     rw[plF,hk,ZE hx,Yl ht,upTo,e,List.range_add,List.flatMap_append,List.range_add]
     refine List.IsInfix.trans ?_ (List.suffix_append _ _).isInfix
     rw[List.map_append,List.flatMap_append]
     refine List.IsInfix.trans ?_ (List.prefix_append _ _).isInfix
     have:(List.range 2).map (fun i=>b+i)=[b,b+1]:=by simp[List.range_succ]
     rw[this]
     simp
   · rw[plF,upTo] at h ⊢
     obtain⟨i,hi,h⟩:=List.mem_flatMap.1 h
     refine Zf7 hi ?_
     rcases List.mem_cons.1 h with h|h
     · simp at h;exact absurd h.1.symm hm
     · refine List.IsInfix.trans ?_ (List.suffix_cons _ _).isInfix
       split at h
       · rename_i c hc
         exact ih c h
       · simp at h
theorem Zg2 {s:List Nd} (wf:WF s):∀ (k t n q:Nat),n∈allF s k t→q≤Zn s n→(n,q)∈plF s k t:=by
 intro k
 induction k with
 | zero=>intro t n q h;simp[allF] at h
 | succ k ih =>
   intro t n q h hq
   rw[plF,upTo,List.mem_flatMap]
   rw[allF,List.mem_cons,List.mem_flatMap] at h
   rcases h with rfl|⟨c,hc,h⟩
   · exact⟨q,List.mem_range.2 (by omega),List.mem_cons_self⟩
   · obtain⟨x,hx,hcx⟩:=Y8 hc
     obtain⟨i,hi⟩:=List.mem_iff_getElem?.1 hcx
     have hil:i<x.ks.length:=(List.getElem?_eq_some_iff.1 hi).1
     have ht:x.t=false:=by
      cases e:x.t with
      | false=>rfl
      | true=>rw[(wf.elem t x hx).1 e] at hil;simp at hil
     refine⟨i,List.mem_range.2 (by rw[ZE hx,Yg ht];omega),List.mem_cons_of_mem _ ?_⟩
     rw[Yp hx,hi]
     exact ih c n q h hq
theorem ZbM {α:Type} {l:List α} (hn:l.Nodup) {i:Nat} {p q:α} (h:[p,q] <:+: l) (hi:l[i]?=some p):l[i+1]?=some q:=by
 obtain⟨a,b,e⟩:=h
 have h1:l[a.length]?=some p:=by rw[← e];simp
 have h2:l[a.length+1]?=some q:=by rw[← e];simp
 obtain⟨h3,h4⟩:=List.getElem?_eq_some_iff.1 h1
 obtain⟨h5,h6⟩:=List.getElem?_eq_some_iff.1 hi
 rcases Nat.lt_trichotomy i a.length with e|e|e
 · exact absurd (h6.trans h4.symm) (List.pairwise_iff_getElem.1 hn i a.length h5 h3 e)
 · rw[e];exact h2
 · exact absurd (h4.trans h6.symm) (List.pairwise_iff_getElem.1 hn a.length i h3 h5 e)
theorem wh_next {s:List Nd} (wf:WF s) {k t n b:Nat} {x:Nd} (hx:s[n]?=some x) (ht:x.t=true) (hb:b < x.cs.length) (hm:(n,b)∈plF s k t):wh (plF s k t) (n,b+1)=wh (plF s k t) (n,b)+1:=by
 obtain⟨i,e,hi⟩:=Zci hm
 rw[e,Jp (Xd wf k t) (ZbM (Xd wf k t) (Zcc wf hx ht hb k t hm) hi)]
 rfl
theorem chB_at {s:List Nd} (wf:WF s) {k t i:Nat} {p:Nat × Nat} (hp:(plF s k t)[i]?=some p) (hi:i+1 < (plF s k t).length):chB s (plF s k t) i=(csOf s p.1)[p.2]?.toList:=by
 obtain⟨q,hq⟩:∃ q,(plF s k t)[i+1]?=some q:=⟨_,List.getElem?_eq_getElem hi⟩
 unfold chB
 rw[hp,hq]
 simp only
 cases hx:s[p.1]? with
 | none=>simp[csOf,hx]
 | some x =>
   cases ht:x.t with
   | false=>simp[csOf,hx,(wf.elem p.1 x hx).2 ht]
   | true =>
     by_cases he:p.1=q.1
     · simp[he,ht]
     · simp only[he,false_and,if_false]
       rw[YY hx]
       by_cases hb:p.2<x.cs.length
       · have:=ZbM (Xd wf k t) (Zcc wf hx ht hb k t (List.mem_of_getElem? hp)) hp
         rw[hq] at this
         cases this
         exact absurd rfl he
       · rw[List.getElem?_eq_none (by omega)];rfl
theorem ZdQ {s:List Nd}:∀ (k t:Nat) (p:Nat × Nat),p∈plF s k t→p.2≤Zn s p.1:=by
 intro k
 induction k with
 | zero=>intro t p h;simp[plF] at h
 | succ k ih =>
   intro t p h
   rw[plF,upTo,List.mem_flatMap] at h
   obtain⟨i,hi,h⟩:=h
   rcases List.mem_cons.1 h with rfl|h
   · have:=List.mem_range.1 hi;simp only;omega
   · split at h
     · exact ih _ p h
     · simp at h
theorem text_run {s:List Nd} (wf:WF s) {k t n:Nat} {x:Nd} (hx:s[n]?=some x) (ht:x.t=true) {i b:Nat} (hi:(plF s k t)[i]?=some (n,b)):∀ e,b+e≤x.cs.length→(plF s k t)[i+e]?=some (n,b+e):=by
 intro e
 induction e with
 | zero=>intro _;exact hi
 | succ e ih =>
   intro he
   have h1:=ih (by omega)
   exact ZbM (Xd wf k t) (Zcc (b:=b+e) wf hx ht (by omega) k t (List.mem_of_getElem? h1)) h1
theorem Ziw {s:List Nd} (wf:WF s) {k t n:Nat} {x:Nd} (hx:s[n]?=some x) (ht:x.t=true) {i b b':Nat} (hi:(plF s k t)[i]?=some (n,b)) (hj:(plF s k t)[i+1]?=some (n,b')):b < x.cs.length:=by
 have h1:=ZdQ k t _ (List.mem_of_getElem? hi)
 have h2:=ZdQ k t _ (List.mem_of_getElem? hj)
 simp only[ZE hx,Yl ht] at h1 h2
 rcases Nat.lt_or_ge b x.cs.length with h|h
 · exact h
 · exfalso
   obtain rfl:b=x.cs.length:=by omega
   have h3:=text_run wf hx ht hj (x.cs.length - b') (by omega)
   rw[show b'+(x.cs.length - b')=x.cs.length by omega] at h3
   obtain⟨h4,h5⟩:=List.getElem?_eq_some_iff.1 hi
   obtain⟨h6,h7⟩:=List.getElem?_eq_some_iff.1 h3
   exact List.pairwise_iff_getElem.1 (Xd wf k t) i (i+1+(x.cs.length - b')) h4 h6 (by omega) (h5.trans h7.symm)
theorem chB_ch {s:List Nd} (wf:WF s) (L:List (Nat × Nat)) (i:Nat):(chB s L i).length≤1∧∀ c∈chB s L i,IsCh c:=by
 unfold chB
 split
 · split
   · rename_i p q _ _ _
     cases e:(csOf s p.1)[p.2]? with
     | none=>simp
     | some c =>
       refine⟨by simp,fun d hd=>?_⟩
       simp at hd
       subst hd
       have hm:=List.mem_of_getElem? e
       unfold csOf at hm
       split at hm
       · rename_i y hy
         exact(wf.chars p.1 y hy).2 d hm
       · simp at hm
   · simp
 · simp
theorem readR_ch {s:List Nd} (wf:WF s) (L:List (Nat × Nat)) (i m:Nat):(Yz s L i m).length≤m∧∀ c∈Yz s L i m,IsCh c:=by
 induction m with
 | zero=>simp[Yz]
 | succ m ih =>
   have h:=chB_ch wf L (i+m)
   have h1:=h.1
   have h2:=ih.1
   rw[Zd2]
   refine⟨by rw[List.length_append];omega,fun c hc=>?_⟩
   rcases List.mem_append.1 hc with hc|hc
   · exact ih.2 c hc
   · exact h.2 c hc
theorem Zhc {α:Type} (N lo hi:Nat) (h1:lo≤hi) (h2:hi≤N) (G:Nat→List α):(List.range N).flatMap (fun i=>if lo≤i∧i < hi then G i else [])=(List.range (hi - lo)).flatMap (fun j=>G (lo+j)):=by
 have e:N=lo+((hi - lo)+(N - hi)):=by omega
 rw[e,List.range_add,List.flatMap_append,List.range_add,List.map_append,List.flatMap_append]
 have a:(List.range lo).flatMap (fun i=>if lo≤i∧i<hi then G i else [])=[]:=by
  rw[List.flatMap_eq_nil_iff]
  intro i hi
  rw[if_neg (by have:=List.mem_range.1 hi;omega)]
 have c:(((List.range (N - hi)).map (fun x=>hi - lo+x)).map (fun x=>lo+x)).flatMap (fun i=>if lo≤i∧i<hi then G i else [])=[]:=by
  rw[List.flatMap_eq_nil_iff]
  intro i hi
  simp only[List.map_map,List.mem_map] at hi
  obtain⟨j,_,rfl⟩:=hi
  rw[if_neg (by simp only[Function.comp];omega)]
 rw[a,c,List.nil_append,List.append_nil,List.flatMap_map]
 rw[List.flatMap_def,List.flatMap_def]
 congr 1
 refine List.map_congr_left (fun j hj=>?_)
 rw[if_pos (by have:=List.mem_range.1 hj;omega)]
theorem Zc7 {α β:Type} (l:List α) (F:α→List β):l.flatMap F=(List.range l.length).flatMap (fun i=>match l[i]? with | some p=>F p | none=>[]):=by
 induction l with
 | nil=>rfl
 | cons a l ih =>
   rw[List.length_cons,List.range_succ_eq_map,List.flatMap_cons,List.flatMap_cons,List.flatMap_map,ih]
   rfl
theorem pl_texts {s:List Nd} (wf:WF s) (H:Nat × Nat→List ByteArray) (hH:∀ p,(csOf s p.1).length≤p.2→H p=[]):∀ (k n:Nat),n < s.length→(plF s k n).flatMap H=(allF s k n).flatMap (fun m=>(List.range (csOf s m).length).flatMap (fun b=>H (m,b))):=by
 intro k
 induction k with
 | zero=>intro n _;rfl
 | succ k ih =>
   intro n hn
   have hx:s[n]?=some s[n]:=List.getElem?_eq_getElem hn
   generalize s[n]=x at hx
   rw[plF,upTo,allF,List.flatMap_cons,Yp hx,ZE hx,YY hx,List.flatMap_assoc]
   cases ht:x.t with
   | true =>
     rw[(wf.elem n x hx).1 ht,Yl ht,List.range_succ,List.flatMap_append]
     simp only[List.getElem?_nil,List.flatMap_cons,List.flatMap_nil,List.append_nil]
     rw[hH (n,x.cs.length) (by rw[YY hx];exact Nat.le_refl _),List.append_nil]
   | false =>
     have hcs:x.cs=[]:=(wf.elem n x hx).2 ht
     have h0:∀ i,H (n,i)=[]:=fun i=>hH (n,i) (by rw[YY hx,hcs];simp)
     rw[hcs,Yg ht,List.range_succ,List.flatMap_append]
     simp only[List.flatMap_cons,h0,List.nil_append,List.length_nil,List.range_zero,List.flatMap_nil,List.append_nil]
     rw[List.getElem?_eq_none (Nat.le_refl _)]
     simp only[List.flatMap_nil,List.append_nil]
     have key:∀ l:List Nat,(∀ c∈l,c∈x.ks)→(l.flatMap (allF s k)).flatMap (fun m=>(List.range (csOf s m).length).flatMap (fun b=>H (m,b)))=(List.range l.length).flatMap (fun i=>(match l[i]? with|some c=>plF s k c|none=>[]).flatMap H):=by
      intro l hl
      rw[List.flatMap_assoc,Zc7 l]
      rw[List.flatMap_def,List.flatMap_def]
      congr 1
      refine List.map_congr_left (fun i hi=>?_)
      cases hc:l[i]? with
      | none=>rfl
      | some c =>
        simp only
        obtain⟨y,hy,_⟩:=wf.kid n x hx c (hl c (List.mem_of_getElem? hc))
        rw[ih c (List.getElem?_eq_some_iff.1 hy).1]
     exact(key x.ks (fun c h=>h)).symm
theorem Zho {s:List Nd} (wf:WF s) {k t a b c d i j:Nat} (ht:t < s.length) (hi:(plF s k t)[i]?=some (a,b)) (hj:(plF s k t)[j]?=some (c,d)) (hij:i≤j) :
 Yz s (plF s k t) i (j - i)=Yf s (plF s k t) a b c d (allF s k t):=by
 have hnd:=Xd wf k t
 have hjl:j<(plF s k t).length:=(List.getElem?_eq_some_iff.1 hj).1
 have e1:Yz s (plF s k t) i (j - i)=(plF s k t).flatMap (fun p=>if (i:Int)≤wh (plF s k t) p∧wh (plF s k t) p<j then (csOf s p.1)[p.2]?.toList else []):=by
  rw[Zc7]
  have:=Zhc (plF s k t).length i j hij (Nat.le_of_lt hjl) (fun m=>chB s (plF s k t) m)
  rw[Yz,← this,List.flatMap_def,List.flatMap_def]
  congr 1
  refine List.map_congr_left (fun m hm=>?_)
  have hml:=List.mem_range.1 hm
  have hp:(plF s k t)[m]?=some (plF s k t)[m]:=List.getElem?_eq_getElem hml
  rw[hp]
  simp only
  rw[Jp hnd hp]
  by_cases hc:i≤m∧m<j
  · rw[if_pos hc,if_pos ⟨by omega,by omega⟩]
    exact chB_at wf hp (by omega)
  · rw[if_neg hc,if_neg (by omega)]
 rw[e1,pl_texts wf _ (fun p hp=>by rw[List.getElem?_eq_none hp];simp) k t ht]
 unfold Yf
 rw[List.flatMap_def,List.flatMap_def]
 congr 1
 refine List.map_congr_left (fun n hn=>?_)
 unfold pk
 rw[List.flatMap_def,List.flatMap_def]
 congr 1
 refine List.map_congr_left (fun q hq=>?_)
 have hql:=List.mem_range.1 hq
 have hnl:=X5 wf k t ht n hn
 have hx:s[n]?=some s[n]:=List.getElem?_eq_getElem hnl
 generalize s[n]=x at hx
 rw[YY hx] at hql
 have htx:x.t=true:=by
  cases e:x.t with
  | true=>rfl
  | false=>rw[(wf.elem n x hx).2 e] at hql;simp at hql
 have hmem:(n,q)∈plF s k t:=by
  refine Zg2 wf k t n q hn ?_
  rw[ZE hx,Yl htx]
  omega
 unfold cov
 rw[Jp hnd hi,Jp hnd hj,wh_next wf hx htx hql hmem]
 simp only[Bool.and_eq_true,decide_eq_true_eq]
 by_cases hc:(i:Int)≤wh (plF s k t) (n,q)∧wh (plF s k t) (n,q)<j
 · rw[if_pos hc,if_pos ⟨hc.1,by omega⟩]
 · rw[if_neg hc,if_neg (by omega)]
end
section
open Go.RowKit
section
variable {PD:PDT} {G:World→Prop} {FP FR:Nat→Prop} {w:World} {yb bx bd:Nat} {psv:Value} {s:St}
theorem Zhg (hPD:PDOk PD) (hGB:∀ w w',G w→Below w.heap.size w w'→G w') (hA:ZU PD FP FR w yb bx bd psv s) (hg:G w)
 (D A B C:Int) (S:ByteArray) (p0 p1 q0 q1:Int) (h:∃ b:ByteArray,Ans PD G s 33 85 [.int .i64 A] (fun v=>.tuple #[.string b,v]) (fun v=>.tuple #[.string b,v])) :
 Calls Tryz.prog 44 #[ptr yb,.agg #[ptr bx,ptr bd],opV 14 D A B C S p0 p1 q0 q1] w (Z8 PD FP FR w yb bx bd psv):=by
 obtain⟨b,a,y,s',hwf,hp,hr⟩:=h
 have hB:=Ys w bx bd 14 D A B C S p0 p1 q0 q1
 have hbp:=Yu w bx bd 14 D A B C S p0 p1 q0 q1
 have hbo:=Yt w bx bd 14 D A B C S p0 p1 q0 q1
 have CP:=hid (hp (Z9 w bx bd 14 D A B C S p0 p1 q0 q1) FP bx (hGB _ _ hg hB) (hPD.keeps hA.pd (Zb.of_below (F:=fun _=>False) hB) (fun _ _ e=>e)))
 have HB:=hid hB
 have HBP:=hid hbp
 have HBO:=hid hbo
 have HR:=hid hr
 have HA:=hid hA
 have HPD:=hid hPD
 have HWF:=hid hwf
 clear hp hr hB hbp hbo hA hPD hwf hg hGB
 have hbb:(b.toList == b.toList)=true:=by simp
 go_enter Tryz.func44,Tryz.ntmps44
 go_wp2_with (first
  | (go_at_call 33
     refine CP.out.mono ?_
     clear CP
     rintro e w1 ⟨rfl,k1,d1⟩
     have hp1:=HA.out.old k1 (Nat.le_refl _) HBP.out
     have ho1:=HA.out.old k1 (Nat.le_succ _) HBO.out
     have c10:w1.cell? ⟨w.heap.size,0,none⟩=some (ptr bx):=Za hp1 0
     have c11:w1.cell? ⟨w.heap.size,1,none⟩=some (ptr bd):=Za hp1 1
     have c22:w1.cell? ⟨w.heap.size+1,2,none⟩=some (.int .i64 A):=Za ho1 2
     have c23:w1.cell? ⟨w.heap.size+1,3,none⟩=some (.int .i64 B):=Za ho1 3
     have c24:w1.cell? ⟨w.heap.size+1,4,none⟩=some (.int .i64 C):=Za ho1 4
     have c25:w1.cell? ⟨w.heap.size+1,5,none⟩=some (.string S):=Za ho1 5
     have CR:=hid (HR.out w1 FR bd (HA.out.ref HB.out k1))
     have K1:=hid k1
     have D1:=hid d1
     clear k1 d1 hp1 ho1)
  | (go_at_call 85
     refine CR.out.mono ?_
     clear CR
     rintro e w2 ⟨rfl,k2,r2⟩
     have PL:=hid (HA.out.play2 HB.out K1.out k2)
     have K2:=hid k2
     have R2:=hid r2
     clear k2 r2)
  | (go_at_call 20
     obtain⟨l0,a0,y0,-,hq⟩:=PL.out
     refine(Yw yb psv l0 a0 y0 a y (w2.alloc (.cells #[.int .i64 a,.int .i64 y] 32)) ((Below.heap_alloc _ _ _ (Zc hq)).trans hq)).mono ?_
     rintro e w4 ⟨rfl,k4,hq4⟩
     have K4:=hid k4
     have Q4:=hid hq4
     clear k4 hq4 hq))
 go_ret
 exact Yx HPD.out HA.out HWF.out HB.out K1.out D1.out K2.out R2.out ((((Zb.refl (fun b=>b=yb) w2).alloc _)).trans (K4.out.mono (fun k _ e=>.inl e))) ⟨_,_,_,rfl,Q4.out⟩
theorem Zhd (hPD:PDOk PD) (hGB:∀ w w',G w→Below w.heap.size w w'→G w') (hA:ZU PD FP FR w yb bx bd psv s) (hg:G w)
 (D A B C:Int) (S:ByteArray) (p0 p1 q0 q1:Int) (h:Ans PD G s 37 86 [.int .i64 A] (fun v=>v) (fun v=>v)) :
 Calls Tryz.prog 44 #[ptr yb,.agg #[ptr bx,ptr bd],opV 15 D A B C S p0 p1 q0 q1] w (Z8 PD FP FR w yb bx bd psv):=by
 obtain⟨a,y,s',hwf,hp,hr⟩:=h
 have hB:=Ys w bx bd 15 D A B C S p0 p1 q0 q1
 have hbp:=Yu w bx bd 15 D A B C S p0 p1 q0 q1
 have hbo:=Yt w bx bd 15 D A B C S p0 p1 q0 q1
 have CP:=hid (hp (Z9 w bx bd 15 D A B C S p0 p1 q0 q1) FP bx (hGB _ _ hg hB) (hPD.keeps hA.pd (Zb.of_below (F:=fun _=>False) hB) (fun _ _ e=>e)))
 have HB:=hid hB
 have HBP:=hid hbp
 have HBO:=hid hbo
 have HR:=hid hr
 have HA:=hid hA
 have HPD:=hid hPD
 have HWF:=hid hwf
 clear hp hr hB hbp hbo hA hPD hwf hg hGB
 go_enter Tryz.func44,Tryz.ntmps44
 go_wp2_with (first
  | (go_at_call 37
     refine CP.out.mono ?_
     clear CP
     rintro e w1 ⟨rfl,k1,d1⟩
     have hp1:=HA.out.old k1 (Nat.le_refl _) HBP.out
     have ho1:=HA.out.old k1 (Nat.le_succ _) HBO.out
     have c10:w1.cell? ⟨w.heap.size,0,none⟩=some (ptr bx):=Za hp1 0
     have c11:w1.cell? ⟨w.heap.size,1,none⟩=some (ptr bd):=Za hp1 1
     have c22:w1.cell? ⟨w.heap.size+1,2,none⟩=some (.int .i64 A):=Za ho1 2
     have c23:w1.cell? ⟨w.heap.size+1,3,none⟩=some (.int .i64 B):=Za ho1 3
     have c24:w1.cell? ⟨w.heap.size+1,4,none⟩=some (.int .i64 C):=Za ho1 4
     have c25:w1.cell? ⟨w.heap.size+1,5,none⟩=some (.string S):=Za ho1 5
     have CR:=hid (HR.out w1 FR bd (HA.out.ref HB.out k1))
     have K1:=hid k1
     have D1:=hid d1
     clear k1 d1 hp1 ho1)
  | (go_at_call 86
     refine CR.out.mono ?_
     clear CR
     rintro e w2 ⟨rfl,k2,r2⟩
     have PL:=hid (HA.out.play2 HB.out K1.out k2)
     have K2:=hid k2
     have R2:=hid r2
     clear k2 r2)
  | (go_at_call 20
     obtain⟨l0,a0,y0,-,hq⟩:=PL.out
     refine(Yw yb psv l0 a0 y0 a y w2 hq).mono ?_
     rintro e w4 ⟨rfl,k4,hq4⟩
     have K4:=hid k4
     have Q4:=hid hq4
     clear k4 hq4 hq))
 go_ret
 exact Yx HPD.out HA.out HWF.out HB.out K1.out D1.out K2.out R2.out K4.out ⟨_,_,_,rfl,Q4.out⟩
end
structure XE (PD:PDT) (G:World→Prop):Prop extends Answers3 PD G where
 compare:Zbf PD G
 read:∀ s,PD.ok s→∀ A:Int,∃ b:ByteArray,Ans PD G s 33 85 [.int .i64 A] (fun v=>.tuple #[.string b,v]) (fun v=>.tuple #[.string b,v])
 delete:∀ s,PD.ok s→∀ A:Int,Ans PD G s 37 86 [.int .i64 A] (fun v=>v) (fun v=>v)
theorem Zie {PD:PDT} {G:World→Prop} (hA:XE PD G) {Q:Nat→Prop} {w0:World} {yb:Nat} (hG:∀ W,Zb Q w0 W→G W) (o:OpR) (ho:OpOk o) (hk:14≤o.kind∧o.kind≤15) (W:World) (docs:List DocR) (hI:InvE PD Q w0 W yb docs) (hdl:docs.length < lots) :
 Calls Tryz.prog 15 #[ptr yb,o.val] W (YI PD Q w0 yb docs.length docs.length):=by
 obtain⟨kind,D,A,B,C,S,p0,p1,q0,q1⟩:=o
 obtain⟨d1,d2,hs⟩:=ho
 simp only at d1 d2 hs hk
 by_cases h0:docs.length=0
 · exact Za1 hA.pd hI kind D A B C S p0 p1 q0 q1 (by omega) (.inl h0)
 refine Zen hA.pd hI kind D A B C S p0 p1 q0 q1 (by omega) (by omega) (by omega) hdl d1 d2 (fun W1 own psv i d hd hI1=>?_)
 have hp:=hI1.pair hd
 have hwf:=(hI1.doc i d hd).2.2
 have hg:=hG _ hI1.fr
 have hc:kind=14∨kind=15:=by omega
 rcases hc with rfl|rfl
 · exact Zhg hA.pd hA.gb hp hg D A B C S p0 p1 q0 q1 (hA.read d.s hwf A)
 · exact Zhd hA.pd hA.gb hp hg D A B C S p0 p1 q0 q1 (hA.delete d.s hwf A)
theorem Zih {PD:PDT} {G:World→Prop} (hA:XE PD G) {Q:Nat→Prop} {w0:World} {yb:Nat} (hG:∀ W,Zb Q w0 W→G W):Jy PD Q w0 yb (fun k=>1≤k∧k≤15):=by
 intro o ho hk W docs hI hdl
 by_cases h9:o.kind≤9
 · exact Zig hA.toAnswers2 hA.compare hG o ho ⟨hk.1,h9⟩ W docs hI hdl
 · by_cases h13:o.kind≤13
   · refine(Zii hA.toAnswers3 hG o ho ⟨by omega,h13⟩ W docs hI hdl).mono ?_
     rintro e w' ⟨he,docs',h,hm,hl⟩
     exact⟨he,docs',h,hm,by omega⟩
   · refine(Zie hA hG o ho ⟨by omega,hk.2⟩ W docs hI hdl).mono ?_
     rintro e w' ⟨he,docs',h,hm,hl⟩
     exact⟨he,docs',h,hm,by omega⟩
end
end Go.Proofs.YtabogkonklplcaaGreatDoor
