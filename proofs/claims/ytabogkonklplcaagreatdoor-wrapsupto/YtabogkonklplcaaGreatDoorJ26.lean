import Derived.Test.YtabogkonklplcaaGreatDoorJ23
import Derived.Test.YtabogkonklplcaaGreatDoorJ15
import Derived.Deep.RegionLaw
import Derived.Deep.RegionWith
import Derived.Deep.Cut
import Derived.Deep.CutRange
namespace Go.Proofs.YtabogkonklplcaaGreatDoor
set_option linter.unusedSimpArgs false
set_option linter.unusedVariables false
set_option maxRecDepth 20000
set_option maxHeartbeats 8000000
section
open Go.RowKit
theorem Zem (rs:List Sp) (i:Nat) (r r':Sp) (h:rs[i]?=some r) (j:Nat) (hj:j < 4) (u:Value) (he:r'.cells=r.cells.set j u) :
 (rs.flatMap Sp.cells).set (i*4+j) u=(rs.set i r').flatMap Sp.cells:=by
 induction rs generalizing i with
 | nil=>simp at h
 | cons a l ih =>
   cases i with
   | zero =>
     simp at h;subst h
     simp only[List.flatMap_cons,List.set_cons_zero,Nat.zero_mul,Nat.zero_add]
     rw[List.set_append_left _ _ (by simpa[Sp.cells] using hj),← he]
   | succ i =>
     have e:(i+1)*4+j=(i*4+j)+4:=by omega
     simp only[List.flatMap_cons,List.set_cons_succ]
     rw[e,List.set_append_right _ _ (by simp[Sp.cells])]
     congr 1
     simpa[Sp.cells] using ih i (by simpa using h)
section
variable {w:World} {F:Nat→Prop} {bd bn cap:Nat} {rn:List RN} {rv:Value} {s:List Nd} {rs:List Sp}
theorem Zf.setSp (h:Zf w F bd bn cap rn rv s rs) {q g c:Nat} (hrv:rv=.slice (some ⟨g,0,none⟩) rs.length c) {r r':Sp} (hr:rs[q]?=some r) (j:Nat) (hj:j < 4) (u:Value) (he:r'.cells=r.cells.set j u) :
 Zf (w.setCell ⟨g,q*4+j,none⟩ u) F bd bn cap rn rv s (rs.set q r'):=by
 have hg:rv.ownBlock=some g:=by rw[hrv];rfl
 have hk:Zb (fun b=>b=g) w (w.setCell ⟨g,q*4+j,none⟩ u):=(Zb.refl (fun b=>b=g) w).setCell (p:=⟨g,q*4+j,none⟩) (.inl rfl) u
 refine⟨?_,?_,?_,h.Fd,h.Fn,h.ne,h.apart,h.len,?_⟩
 · rw[hk.block bd (Zc h.doc) (fun e=>(h.apart g hg).2.1 e.symm)];exact h.doc
 · exact hk.row h.nodes (fun b e e2=>by cases e;exact(h.apart g hg).2.2 e2.symm)
 · have hrow:=h.ranges
   rw[hrv] at hrow ⊢
   have:=(hrow.stored (q*4+j) u).1
   rw[Zem rs q r r' hr j hj u he] at this
   rw[List.length_set]
   exact this
 · intro k r1 x1 h1 h2
   have o:=h.ok k r1 x1 h1 h2
   exact⟨o.t,o.p,hk.row o.chars (fun b e e2=>(o.apartC b e).2.2.2 (by rw[e2];exact hg)),hk.row o.kids (fun b e e2=>(o.apartK b e).2.2.2 (by rw[e2];exact hg)),o.apartC,o.apartK⟩
theorem Zf.spanCells (hD:Zf w F bd bn cap rn rv s rs) {r:Nat} {x:Sp} (hx:rs[r]?=some x):∃ g c,rv=.slice (some ⟨g,0,none⟩) rs.length c∧g < w.heap.size∧F g∧g≠bd∧g≠bn∧w.cell? ⟨g,r * 4,none⟩=some (.int .i64 x.a)∧w.cell? ⟨g,r * 4+1,none⟩=some (.int .i64 x.b)∧w.cell? ⟨g,r * 4+2,none⟩=some (.int .i64 x.c)∧w.cell? ⟨g,r * 4+3,none⟩=some (.int .i64 x.d) ∧
 (∀ o,w.frozen? ⟨g,o,none⟩=false):=by
 have hr:r<rs.length:=(List.getElem?_eq_some_iff.1 hx).1
 obtain⟨g,rc,hrve⟩:∃ g c,rv=.slice (some ⟨g,0,none⟩) rs.length c:=by
  rcases ZB hD.ranges with ⟨_,h0⟩|⟨g,c,h⟩
  · omega
  · exact⟨g,c,h⟩
 have hrow:=hD.ranges
 have ha:=hD.apart g (by rw[hrve];rfl)
 rw[hrve] at hrow
 refine⟨g,rc,hrve,(hrow.lt g rfl).2,ha.1,ha.2.1,ha.2.2,?_,?_,?_,?_,fun o=>hrow.frozenAt o⟩
 · have:=hrow.cellAt (r*4+0) (by omega);rw[ZX rs r x hx 0 (by omega)] at this;simpa[Sp.cells] using this
 · have:=hrow.cellAt (r*4+1) (by omega);rw[ZX rs r x hx 1 (by omega)] at this;simpa[Sp.cells] using this
 · have:=hrow.cellAt (r*4+2) (by omega);rw[ZX rs r x hx 2 (by omega)] at this;simpa[Sp.cells] using this
 · have:=hrow.cellAt (r*4+3) (by omega);rw[ZX rs r x hx 3 (by omega)] at this;simpa[Sp.cells] using this
end
theorem Jm {α:Type} (f:α→α) (rs:List α) (q:Nat) (x:α) (hx:rs[q]?=some x):((rs.take q).map f++rs.drop q).set q (f x)=(rs.take (q+1)).map f++rs.drop (q+1):=by
 have hq:q<rs.length:=(List.getElem?_eq_some_iff.1 hx).1
 have hd:rs.drop q=x::rs.drop (q+1):=by
  rw[List.drop_eq_getElem_cons hq]
  rw[(List.getElem?_eq_some_iff.1 hx).2]
 rw[hd,List.set_append_right _ _ (by simp;omega)]
 have e:q - ((rs.take q).map f).length=0:=by simp;omega
 rw[e,List.set_cons_zero,List.take_add_one,hx]
 simp
theorem YR {α:Type} (f:α→α) (rs:List α) (q:Nat) (x:α) (hx:rs[q]?=some x):((rs.take q).map f++rs.drop q)[q]?=some x:=by
 have hq:q<rs.length:=(List.getElem?_eq_some_iff.1 hx).1
 rw[List.getElem?_append_right (by simp;omega)]
 have e:q - ((rs.take q).map f).length=0:=by simp;omega
 rw[e]
 simpa using hx
theorem Zdf (a b n o:Int) (w:World) (hb0:0≤b) (hb:b≤100) :
 Calls Tryz.prog 118 #[.agg #[.int .i64 a,.int .i64 b],.int .i64 n,.int .i64 o] w fun e w'=>e=.returned (.agg #[.int .i64 (Ze n o 1 a b).1,.int .i64 (Ze n o 1 a b).2])∧Below w.heap.size w w':=by
 by_cases ha:a=n
 · subst ha
   by_cases ho:o<b
   · have e1:Ze a o 1 a b=(a,b+1):=by simp[Ze,ho]
     rw[e1]
     have d2:decide (o<b)=true:=decide_eq_true ho
     go_enter Tryz.func118,Tryz.ntmps118
     go_wp2
     refine bodyPost_ret (v:=.agg #[.int .i64 a,.int .i64 (b+1)]) (by simp[results,Tryz.results118,go_sem]) rfl ?_
     exact⟨rfl,by go_grown⟩
   · have e1:Ze a o 1 a b=(a,b):=by simp[Ze,ho]
     rw[e1]
     have d2:decide (o<b)=false:=decide_eq_false ho
     go_enter Tryz.func118,Tryz.ntmps118
     go_wp2
     refine bodyPost_ret (v:=.agg #[.int .i64 a,.int .i64 b]) (by simp[results,Tryz.results118,go_sem]) rfl ?_
     exact⟨rfl,by go_grown⟩
 · have e1:Ze n o 1 a b=(a,b):=by simp[Ze,ha]
   rw[e1]
   have d1:(a == n)=false:=by simpa using ha
   go_enter Tryz.func118,Tryz.ntmps118
   go_wp2
   refine bodyPost_ret (v:=.agg #[.int .i64 a,.int .i64 b]) (by simp[results,Tryz.results118,go_sem]) rfl ?_
   exact⟨rfl,by go_grown⟩
theorem ZaP (a b n o c g:Int) (w:World) (hb0:0≤b) (hb:b≤100) (ho0:0≤o) (ho:o≤100) (hc0:0≤c) (hc:c≤100) (hg0:0≤g) (hg:g≤100) :
 Calls Tryz.prog 167 #[.agg #[.int .i64 a,.int .i64 b],.int .i64 n,.int .i64 o,.int .i64 c,.int .i64 g] w fun e w'=>e=.returned (.agg #[.int .i64 (Zl n o c g a b).1,.int .i64 (Zl n o c g a b).2])∧Below w.heap.size w w':=by
 have q:IntKind.i64.wrap (o+c)=o+c:=by rw[IntKind.wrap_i64];omega
 have q2:IntKind.i64.wrap (b - c)=b - c:=by rw[IntKind.wrap_i64];omega
 have q3:IntKind.i64.wrap (b - c+g)=b - c+g:=by rw[IntKind.wrap_i64];omega
 by_cases ha:a=n
 · subst ha
   by_cases h1:b≤o
   · have e1:Zl a o c g a b=(a,b):=by
      unfold Zl Ze
      rw[if_neg (by omega),if_neg (by omega)]
     rw[e1]
     have d2:decide (b≤o)=true:=decide_eq_true h1
     go_enter Tryz.func167,Tryz.ntmps167
     go_wp2
     refine bodyPost_ret (v:=.agg #[.int .i64 a,.int .i64 b]) (by simp[results,Tryz.results167,go_sem]) rfl ?_
     exact⟨rfl,by go_grown⟩
   · have d2:decide (b≤o)=false:=decide_eq_false h1
     by_cases h2:b≤o+c
     · have e1:Zl a o c g a b=(a,o):=by
        unfold Zl
        rw[if_pos ⟨rfl,by omega,h2⟩]
       rw[e1]
       have d3:decide (b≤o+c)=true:=decide_eq_true h2
       go_enter Tryz.func167,Tryz.ntmps167
       go_wp2
       refine bodyPost_ret (v:=.agg #[.int .i64 a,.int .i64 o]) (by simp[results,Tryz.results167,go_sem]) rfl ?_
       exact⟨rfl,by go_grown⟩
     · have e1:Zl a o c g a b=(a,b - c+g):=by
        unfold Zl Ze
        rw[if_neg (by omega),if_pos ⟨rfl,by omega⟩]
        have:b+(g - c)=b - c+g:=by omega
        rw[this]
       rw[e1]
       have d3:decide (b≤o+c)=false:=decide_eq_false h2
       go_enter Tryz.func167,Tryz.ntmps167
       go_wp2
       refine bodyPost_ret (v:=.agg #[.int .i64 a,.int .i64 (b - c+g)]) (by simp[results,Tryz.results167,go_sem]) rfl ?_
       exact⟨rfl,by go_grown⟩
 · have e1:Zl n o c g a b=(a,b):=by
    unfold Zl Ze
    rw[if_neg (fun h=>ha h.1),if_neg (fun h=>ha h.1)]
   rw[e1]
   have d1:(a == n)=false:=by simpa using ha
   have d1':(a != n)=true:=by simp[bne,d1]
   go_enter Tryz.func167,Tryz.ntmps167
   go_wp2
   refine bodyPost_ret (v:=.agg #[.int .i64 a,.int .i64 b]) (by simp[results,Tryz.results167,go_sem]) rfl ?_
   exact⟨rfl,by go_grown⟩
theorem ZdQ (a b n o fr p i:Int) (w:World) (hb0:0≤b) (hb:b≤100) (ho0:0≤o) (ho:o≤100) :
 Calls Tryz.prog 126 #[.agg #[.int .i64 a,.int .i64 b],.int .i64 n,.int .i64 o,.int .i64 fr,.int .i64 p,.int .i64 i] w fun e w'=>e=.returned (.agg #[.int .i64 (Zp n o fr (Ze p i 1) a b).1,.int .i64 (Zp n o fr (Ze p i 1) a b).2])∧Below w.heap.size w w':=by
 by_cases hc:a=n∧o<b
 · obtain⟨rfl,h2⟩:=hc
   have e1:Zp a o fr (Ze p i 1) a b=(fr,b - o):=by simp[Zp,h2]
   rw[e1]
   have d2:decide (o<b)=true:=decide_eq_true h2
   go_enter Tryz.func126,Tryz.ntmps126
   go_wp2
   refine bodyPost_ret (v:=.agg #[.int .i64 fr,.int .i64 (b - o)]) (by simp[results,Tryz.results126,go_sem]) rfl ?_
   exact⟨rfl,by go_grown⟩
 · have e0:Zp n o fr (Ze p i 1) a b=Ze p i 1 a b:=by unfold Zp;rw[if_neg hc]
   rw[e0]
   clear e0
   obtain⟨r0,r1,hr⟩:∃ r0 r1,Ze p i 1 a b=(r0,r1):=⟨_,_,rfl⟩
   by_cases h1:a=n
   · subst h1
     have d2:decide (o<b)=false:=decide_eq_false (fun h=>hc ⟨rfl,h⟩)
     by_cases h3:a=p
     · subst h3
       by_cases h4:i<b
       · have e1:Ze a i 1 a b=(a,b+1):=by simp[Ze,h4]
         rw[e1]
         have d4:decide (i<b)=true:=decide_eq_true h4
         clear hr
         go_enter Tryz.func126,Tryz.ntmps126
         go_wp2
         refine bodyPost_ret (v:=.agg #[.int .i64 a,.int .i64 (b+1)]) (by simp[results,Tryz.results126,go_sem]) rfl ?_
         exact⟨rfl,by go_grown⟩
       · have e1:Ze a i 1 a b=(a,b):=by simp[Ze,h4]
         rw[e1]
         have d4:decide (i<b)=false:=decide_eq_false h4
         clear hr
         go_enter Tryz.func126,Tryz.ntmps126
         go_wp2
         refine bodyPost_ret (v:=.agg #[.int .i64 a,.int .i64 b]) (by simp[results,Tryz.results126,go_sem]) rfl ?_
         exact⟨rfl,by go_grown⟩
     · have e1:Ze p i 1 a b=(a,b):=by simp[Ze,h3]
       rw[e1]
       have d3:(a == p)=false:=by simpa using h3
       clear hr
       go_enter Tryz.func126,Tryz.ntmps126
       go_wp2
       refine bodyPost_ret (v:=.agg #[.int .i64 a,.int .i64 b]) (by simp[results,Tryz.results126,go_sem]) rfl ?_
       exact⟨rfl,by go_grown⟩
   · have d1:(a == n)=false:=by simpa using h1
     by_cases h3:a=p
     · subst h3
       by_cases h4:i<b
       · have e1:Ze a i 1 a b=(a,b+1):=by simp[Ze,h4]
         rw[e1]
         have d4:decide (i<b)=true:=decide_eq_true h4
         clear hr
         go_enter Tryz.func126,Tryz.ntmps126
         go_wp2
         refine bodyPost_ret (v:=.agg #[.int .i64 a,.int .i64 (b+1)]) (by simp[results,Tryz.results126,go_sem]) rfl ?_
         exact⟨rfl,by go_grown⟩
       · have e1:Ze a i 1 a b=(a,b):=by simp[Ze,h4]
         rw[e1]
         have d4:decide (i<b)=false:=decide_eq_false h4
         clear hr
         go_enter Tryz.func126,Tryz.ntmps126
         go_wp2
         refine bodyPost_ret (v:=.agg #[.int .i64 a,.int .i64 b]) (by simp[results,Tryz.results126,go_sem]) rfl ?_
         exact⟨rfl,by go_grown⟩
     · have e1:Ze p i 1 a b=(a,b):=by simp[Ze,h3]
       rw[e1]
       have d3:(a == p)=false:=by simpa using h3
       clear hr
       go_enter Tryz.func126,Tryz.ntmps126
       go_wp2
       refine bodyPost_ret (v:=.agg #[.int .i64 a,.int .i64 b]) (by simp[results,Tryz.results126,go_sem]) rfl ?_
       exact⟨rfl,by go_grown⟩
section
variable {w:World} {F:Nat→Prop} {bd bn cap:Nat} {rn:List RN} {rv:Value} {s:List Nd} {rs:List Sp}
theorem Zef (hD:Zf w F bd bn cap rn rv s rs) {ht:Nat→Nat} {B:Nat} (hU:Up s ht B) (i j m:Nat) (x y:Nd) (hx:s[i]?=some x) (hj:x.p=j) (hy:s[j]?=some y) (hm:y.ks[m]?=some i) (hno:i∉y.ks.take m) (hbig:y.ks.length < lots) (l:List Nat)
 (a b:Nat) (ha:a<s.length) (hb:b≤100) (hl:Lim (fun c=>ZT s c (a:Int) (i:Int)) (l.contains a)) :
 Calls Tryz.prog 119 #[.pointer (some ⟨bd,0,none⟩),.agg #[.int .i64 (a:Int),.int .i64 (b:Int)],.int .i64 i] w fun e w'=>e=.returned (.agg #[.int .i64 (Zz l j m (Ze j m (-1)) a b).1,.int .i64 (Zz l j m (Ze j m (-1)) a b).2])∧Below w.heap.size w w':=by
 have hi:i<s.length:=(List.getElem?_eq_some_iff.1 hx).1
 have h0:=hD.nodesCell
 have hlt:=hD.lt
 obtain⟨r,hr,ho,-,-,-,hc3⟩:=hD.look hx
 rw[hj] at hc3
 have hc:(l.map Int.ofNat).contains (a:Int)=l.contains a:=by
  rw[Bool.eq_iff_iff]
  simp
  constructor
  · rintro⟨k,hk,e⟩
    obtain rfl:k=a:=by omega
    exact hk
  · intro h
    exact⟨a,h,rfl⟩
 have CI:=hid (fun W (hB:Below w.heap.size w W)=>JW (hD.below hB) i j m x y hx hj hy hbig hm hno)
 have CW:=hid (fun W (hB:Below w.heap.size w W)=>XE (hD.below hB) hU (a:Int) (i:Int) (by omega) hl)
 have hB1:Below w.heap.size w ((w.alloc (.cells #[.int .i64 (a:Int),.int .i64 (b:Int)] 37)).alloc (.cells #[.int .i64 0,.int .i64 0] 37)):=((Below.refl _ w).alloc (Nat.le_refl _) _).alloc (by simp) _
 have HB1:=hid hB1
 clear hD hr ho hx hj hy hm hno hbig hl hB1
 unfold Zz
 rw[hc]
 cases hin:l.contains a with
 | true =>
   rw[hin] at CW
   simp only[if_true]
   clear hc hin
   go_enter Tryz.func119,Tryz.ntmps119
   go_wp2_with first
    | (go_at_call 121;refine(CI.out _ HB1.out).mono ?_;rintro e w1 ⟨rfl,q1,rfl⟩)
    | (go_at_call 116;refine(CW.out _ (Zj HB1.out _)).mono ?_;rintro e w2 ⟨rfl,hw2⟩;replace hw2:=hw2.symm;subst hw2)
   refine bodyPost_ret (v:=.agg #[.int .i64 (j:Int),.int .i64 (m:Int)]) (by simp[results,Tryz.results119,go_sem]) rfl ?_
   exact⟨rfl,by go_grown;all_goals exact Zj HB1.out _⟩
 | false =>
   rw[hin] at CW
   simp only[if_false,Bool.false_eq_true]
   clear hc hin
   by_cases h1:(a:Int)=j
   · have h1n:a=j:=by omega
     subst h1n
     by_cases h2:(m:Int)<b
     · have e1:Ze a m (-1) a b=((a:Int),(b:Int) - 1):=by
        unfold Ze;rw[if_pos ⟨rfl,h2⟩];rfl
       rw[e1]
       have d2:decide ((m:Int)<b)=true:=decide_eq_true h2
       go_enter Tryz.func119,Tryz.ntmps119
       go_wp2_with first
        | (go_at_call 121;refine(CI.out _ HB1.out).mono ?_;rintro e w1 ⟨rfl,q1,rfl⟩)
        | (go_at_call 116;refine(CW.out _ (Zj HB1.out _)).mono ?_;rintro e w2 ⟨rfl,hw2⟩;replace hw2:=hw2.symm;subst hw2)
       refine bodyPost_ret (v:=.agg #[.int .i64 (a:Int),.int .i64 ((b:Int) - 1)]) (by simp[results,Tryz.results119,go_sem]) rfl ?_
       exact⟨rfl,by go_grown;all_goals exact Zj HB1.out _⟩
     · have e1:Ze a m (-1) a b=((a:Int),(b:Int)):=by
        unfold Ze;rw[if_neg (fun h=>h2 h.2)]
       rw[e1]
       have d2:decide ((m:Int)<b)=false:=decide_eq_false h2
       go_enter Tryz.func119,Tryz.ntmps119
       go_wp2_with first
        | (go_at_call 121;refine(CI.out _ HB1.out).mono ?_;rintro e w1 ⟨rfl,q1,rfl⟩)
        | (go_at_call 116;refine(CW.out _ (Zj HB1.out _)).mono ?_;rintro e w2 ⟨rfl,hw2⟩;replace hw2:=hw2.symm;subst hw2)
       refine bodyPost_ret (v:=.agg #[.int .i64 (a:Int),.int .i64 (b:Int)]) (by simp[results,Tryz.results119,go_sem]) rfl ?_
       exact⟨rfl,by go_grown;all_goals exact Zj HB1.out _⟩
   · have e1:Ze j m (-1) a b=((a:Int),(b:Int)):=by
      unfold Ze;rw[if_neg (fun h=>h1 h.1)]
     rw[e1]
     have d1:((a:Int) == (j:Int))=false:=by simpa using h1
     go_enter Tryz.func119,Tryz.ntmps119
     go_wp2_with first
      | (go_at_call 121;refine(CI.out _ HB1.out).mono ?_;rintro e w1 ⟨rfl,q1,rfl⟩)
      | (go_at_call 116;refine(CW.out _ (Zj HB1.out _)).mono ?_;rintro e w2 ⟨rfl,hw2⟩;replace hw2:=hw2.symm;subst hw2)
     refine bodyPost_ret (v:=.agg #[.int .i64 (a:Int),.int .i64 (b:Int)]) (by simp[results,Tryz.results119,go_sem]) rfl ?_
     exact⟨rfl,by go_grown;all_goals exact Zj HB1.out _⟩
end
end
section
open Go.RowKit
def Yj (n:Nat) (t:Value):Nat:=n - (intOf t).toNat
def Jv (w:World) (F FF:Nat→Prop) (bd bn cap:Nat) (rn:List RN) (rv:Value) (s:List Nd) (rs:List Sp) (f:Mvf) (P:World→Prop) (t:Value) (wr:World):Prop :=
 ∃ q:Nat,q≤rs.length∧t=.int .i64 (q:Int)∧Zf wr FF bd bn cap rn rv s ((rs.take q).map (mvSp f)++rs.drop q)∧Zb F w wr∧P wr
section
variable {w:World} {F:Nat→Prop} {bd bn cap:Nat} {rn:List RN} {rv:Value} {s:List Nd} {rs:List Sp}
theorem Zf.spanAt (hD:Zf w F bd bn cap rn rv s rs) {r g c n:Nat} {x:Sp} (hx:rs[r]?=some x) (hv:rv=.slice (some ⟨g,0,none⟩) n c):w.cell? ⟨g,r * 4,none⟩=some (.int .i64 x.a)∧w.cell? ⟨g,r * 4+1,none⟩=some (.int .i64 x.b)∧w.cell? ⟨g,r * 4+2,none⟩=some (.int .i64 x.c)∧w.cell? ⟨g,r * 4+3,none⟩=some (.int .i64 x.d) ∧
 (∀ o,w.frozen? ⟨g,o,none⟩=false):=by
 obtain⟨g',c',hv',_,_,_,_,h⟩:=hD.spanCells hx
 rw[hv] at hv'
 cases hv'
 exact h
end
def Small (rs:List Sp):Prop:=∀ x∈rs,0≤x.b∧x.b≤100∧0≤x.d∧x.d≤100
theorem Small.of {s:List Nd} (wf:WF s) {rs:List Sp} (h:∀ x∈rs,SpOk s x):Small rs:=fun x hx=>by
 have h1:=(h x hx).1.small wf
 have h2:=(h x hx).2.small wf
 omega
end
end Go.Proofs.YtabogkonklplcaaGreatDoor
