import Derived.Test.YtabogkonklplcaaGreatDoorJ14
import Derived.Test.YtabogkonklplcaaGreatDoorJ11
import Derived.Test.YtabogkonklplcaaGreatDoorJ12
import Derived.Test.YtabogkonklplcaaGreatDoorJ13
namespace Go.Proofs.YtabogkonklplcaaGreatDoor
set_option linter.unusedSimpArgs false
set_option linter.unusedVariables false
set_option maxRecDepth 20000
set_option maxHeartbeats 8000000
section
abbrev Mvf:Type:=Int→Int→Int × Int
def Ze (n o d:Int):Mvf:=fun a b=>if a=n∧o < b then (a,b+d) else (a,b)
def Zz (l:List Nat) (p q:Int) (g:Mvf):Mvf:=fun a b=>if (l.map Int.ofNat).contains a then (p,q) else g a b
def Zl (n o t g:Int):Mvf:=fun a b=>if a=n∧o < b∧b≤o+t then (n,o) else Ze n (o+t) (g - t) a b
def Zp (n o fr:Int) (g:Mvf):Mvf:=fun a b=>if a=n∧o < b then (fr,b - o) else g a b
def mvSp (f:Mvf) (x:Sp):Sp:=⟨(f x.a x.b).1,(f x.a x.b).2,(f x.c x.d).1,(f x.c x.d).2⟩
def PlOk (s:List Nd) (a b:Int):Prop:=∃ n k:Nat,a=(n:Int)∧b=(k:Int)∧n < s.length∧k≤Zn s n
def SpOk (s:List Nd) (x:Sp):Prop:=PlOk s x.a x.b∧PlOk s x.c x.d
theorem Xz {s:List Nd} {i:Nat} (hi:i < s.length) (x:Nd) (n:Nat):Zn (s.set i x) n=if n=i then ZI x else Zn s n:=by
 unfold Zn
 by_cases h:n=i
 · subst h
   simp[hi]
 · rw[List.getElem?_set_ne (fun e=>h e.symm),if_neg h]
theorem Zeg {s:List Nd} (x:Nd) {n:Nat} (hn:n < s.length):Zn (s++[x]) n=Zn s n:=by
 unfold Zn
 rw[List.getElem?_append_left hn]
theorem PlOk.push {s:List Nd} {a b:Int} (h:PlOk s a b) (x:Nd):PlOk (s++[x]) a b:=by
 obtain⟨n,k,rfl,rfl,hn,hk⟩:=h
 exact⟨n,k,rfl,rfl,by simp;omega,by rw[Zeg x hn];exact hk⟩
theorem PlOk.insert {s:List Nd} {i j k:Nat} {x y:Nd} (hx:s[i]?=some x) (hy:s[j]?=some y) (hij:i≠j) (ht:x.t=false) (hk:k≤x.ks.length) {a b:Int} (h:PlOk s a b) :
 PlOk ((s.set i { x with ks:=x.ks.take k++j::x.ks.drop k }).set j { y with p:=i }) (Ze i k 1 a b).1 (Ze i k 1 a b).2:=by
 obtain⟨n,m,rfl,rfl,hn,hm⟩:=h
 have hi:i<s.length:=(List.getElem?_eq_some_iff.1 hx).1
 have hj:j<s.length:=(List.getElem?_eq_some_iff.1 hy).1
 have hsz:Zn ((s.set i { x with ks:=x.ks.take k++j::x.ks.drop k }).set j { y with p:=i }) n=if n=i then Zn s n+1 else Zn s n:=by
  rw[Xz (by simpa using hj),Xz hi]
  by_cases h1:n=j
  · subst h1
    rw[if_pos rfl,if_neg (fun e=>hij e.symm),ZE hy]
    rfl
  · rw[if_neg h1]
    by_cases h2:n=i
    · subst h2
      rw[if_pos rfl,if_pos rfl,ZE hx,Yg ht,Yg (x:={ x with ks:=x.ks.take k++j::x.ks.drop k }) ht]
      simp;omega
    · rw[if_neg h2,if_neg h2]
 unfold Ze
 by_cases hc:(n:Int)=(i:Int)∧(k:Int)<(m:Int)
 · rw[if_pos hc]
   refine⟨n,m+1,rfl,by simp,by simpa using hn,?_⟩
   rw[hsz,if_pos (by omega)];omega
 · rw[if_neg hc]
   refine⟨n,m,rfl,rfl,by simpa using hn,?_⟩
   rw[hsz];split <;> omega
theorem PlOk.remove {s:List Nd} {i j m:Nat} {x y:Nd} (hx:s[i]?=some x) (hy:s[j]?=some y) (hij:i≠j) (ht:y.t=false) (hm:m < y.ks.length) (l:List Nat) (hjl:j∉l) {a b:Int} (h:PlOk s a b) :
 PlOk ((s.set j { y with ks:=y.ks.take m++y.ks.drop (m+1) }).set i { x with p:=-1 }) (Zz l j m (Ze j m (-1)) a b).1 (Zz l j m (Ze j m (-1)) a b).2:=by
 obtain⟨n,o,rfl,rfl,hn,ho⟩:=h
 have hi:i<s.length:=(List.getElem?_eq_some_iff.1 hx).1
 have hj:j<s.length:=(List.getElem?_eq_some_iff.1 hy).1
 have hsz:∀ n,Zn ((s.set j { y with ks:=y.ks.take m++y.ks.drop (m+1) }).set i { x with p:=-1 }) n=if n=j then Zn s n - 1 else Zn s n:=by
  intro n
  rw[Xz (by simpa using hi),Xz hj]
  by_cases h1:n=i
  · subst h1
    rw[if_pos rfl,if_neg hij,ZE hx]
    rfl
  · rw[if_neg h1]
    by_cases h2:n=j
    · subst h2
      rw[if_pos rfl,if_pos rfl,ZE hy,Yg ht,Yg (x:={ y with ks:=y.ks.take m++y.ks.drop (m+1) }) ht]
      simp;omega
    · rw[if_neg h2,if_neg h2]
 have hsj:Zn s j=y.ks.length:=by rw[ZE hy,Yg ht]
 unfold Zz
 split
 · exact⟨j,m,rfl,rfl,by simpa using hj,by rw[hsz,if_pos rfl,hsj];omega⟩
 · unfold Ze
   by_cases hc:(n:Int)=(j:Int)∧(m:Int)<(o:Int)
   · rw[if_pos hc]
     obtain rfl:n=j:=by omega
     exact⟨n,o - 1,rfl,by show (o:Int)+-1=_;omega,by simpa using hn,by rw[hsz,if_pos rfl];omega⟩
   · rw[if_neg hc]
     refine⟨n,o,rfl,rfl,by simpa using hn,?_⟩
     rw[hsz]
     split
     · rename_i e
       subst e
       omega
     · exact ho
theorem PlOk.replace {s:List Nd} {i o c:Nat} {x:Nd} {cs:List ByteArray} {g:Nat} (hx:s[i]?=some x) (ht:x.t=true) (hc:o+c≤x.cs.length) (hcs:cs.length=x.cs.length - c+g) {a b:Int} (h:PlOk s a b) :
 PlOk (s.set i { x with cs:=cs }) (Zl i o c g a b).1 (Zl i o c g a b).2:=by
 obtain⟨n,m,rfl,rfl,hn,hm⟩:=h
 have hi:i<s.length:=(List.getElem?_eq_some_iff.1 hx).1
 have hsi:Zn s i=x.cs.length:=by rw[ZE hx,Yl ht]
 have hsz:∀ n,Zn (s.set i { x with cs:=cs }) n=if n=i then cs.length else Zn s n:=by
  intro n
  rw[Xz hi,Yl (x:={ x with cs:=cs }) ht]
 unfold Zl
 split
 · exact⟨i,o,rfl,rfl,by simpa using hi,by rw[hsz,if_pos rfl];omega⟩
 · rename_i h1
   unfold Ze
   split
   · rename_i h2
     obtain rfl:n=i:=by omega
     exact⟨n,m - c+g,rfl,by show (m:Int)+_=_;omega,by simpa using hn,by rw[hsz,if_pos rfl];omega⟩
   · rename_i h2
     refine⟨n,m,rfl,rfl,by simpa using hn,?_⟩
     rw[hsz]
     split
     · rename_i e
       subst e
       have:m≤o:=by
        rcases Nat.lt_or_ge o m with h|h
        · exfalso
          have h3:¬ ((m:Int)≤(o:Int)+(c:Int)):=fun h4=>h1 ⟨rfl,by omega,h4⟩
          exact h2 ⟨rfl,by omega⟩
        · exact h
       omega
     · exact hm
theorem SpOk.mv {s s':List Nd} {f:Mvf} (hf:∀ a b:Int,PlOk s a b→PlOk s' (f a b).1 (f a b).2) {x:Sp} (h:SpOk s x):SpOk s' (mvSp f x):=⟨hf _ _ h.1,hf _ _ h.2⟩
theorem PlOk.small {s:List Nd} (wf:WF s) {a b:Int} (h:PlOk s a b):0≤b∧b≤40:=by
 obtain⟨n,k,rfl,rfl,hn,hk⟩:=h
 have hx:=List.getElem?_eq_getElem hn
 rw[ZE hx] at hk
 have:=ZaY wf hx
 omega
end
section
open Go.RowKit
theorem ZX (rs:List Sp) (i:Nat) (x:Sp) (h:rs[i]?=some x) (j:Nat) (hj:j < 4):(rs.flatMap Sp.cells)[i * 4+j]?=x.cells[j]?:=by
 induction rs generalizing i with
 | nil=>simp at h
 | cons a l ih =>
   cases i with
   | zero =>
     simp at h;subst h
     rw[List.flatMap_cons,Nat.zero_mul,Nat.zero_add,List.getElem?_append_left (by simpa[Sp.cells] using hj)]
   | succ i =>
     have e:(i+1)*4+j=(i*4+j)+4:=by omega
     rw[e,List.flatMap_cons,List.getElem?_append_right (by simp[Sp.cells])]
     simpa[Sp.cells] using ih i (by simpa using h)
section
variable {w:World} {F:Nat→Prop} {bd bn cap:Nat} {rn:List RN} {rv:Value} {s:List Nd} {rs:List Sp}
theorem ZaU (hD:Zf w F bd bn cap rn rv s rs) (r:Int) (h:r < 0∨(rs.length:Int)≤r) :
 Calls Tryz.prog 131 #[.pointer (some ⟨bd,0,none⟩),.int .i64 r] w fun e w'=>e=.returned (Zi r 8)∧Below w.heap.size w w':=by
 obtain⟨ra,rc,hrve⟩:=Zo hD.ranges
 have hrv:=hD.rangesCell
 rw[hrve] at hrv
 have hlt:=hD.lt
 clear hD
 by_cases hn:r<0
 · have d1:decide (r<0)=true:=decide_eq_true hn
   go_enter Tryz.func131,Tryz.ntmps131
   go_wp2_with (go_at_call 48;refine(ZK _ _ _).mono ?_;rintro e w' ⟨rfl,rfl⟩)
   go_returns
   exact⟨rfl,by go_grown⟩
 · have d1:decide (r<0)=false:=decide_eq_false hn
   have d2:decide ((rs.length:Int)≤r)=true:=decide_eq_true (by omega)
   go_enter Tryz.func131,Tryz.ntmps131
   go_wp2_with (go_at_call 48;refine(ZK _ _ _).mono ?_;rintro e w' ⟨rfl,rfl⟩)
   go_returns
   exact⟨rfl,by go_grown⟩
theorem YU (hD:Zf w F bd bn cap rn rv s rs) (r:Nat) (h:r < rs.length) :
 Calls Tryz.prog 131 #[.pointer (some ⟨bd,0,none⟩),.int .i64 (r:Int)] w fun e w'=>e=.returned (Zi 0 0)∧Below w.heap.size w w':=by
 obtain⟨ra,rc,hrve⟩:=Zo hD.ranges
 have hrv:=hD.rangesCell
 rw[hrve] at hrv
 have hlt:=hD.lt
 clear hD
 have d1:decide ((r:Int)<0)=false:=decide_eq_false (by omega)
 have d2:decide ((rs.length:Int)≤(r:Int))=false:=decide_eq_false (by omega)
 go_enter Tryz.func131,Tryz.ntmps131
 go_wp2
 go_returns
 exact⟨rfl,by go_grown⟩
end
end
section
open Go.RowKit
abbrev spV (x:Sp):Value:=.agg #[.int .i64 x.a,.int .i64 x.b,.int .i64 x.c,.int .i64 x.d]
abbrev sp0 (w:World):World:=(w.alloc (.cells #[.int .i64 0,.int .i64 0,.int .i64 0,.int .i64 0] 79)).alloc (.cells #[.int .i64 0,.int .i64 0] 32)
theorem Jo (w:World):Below w.heap.size w (sp0 w):=((Below.refl _ w).alloc (Nat.le_refl _) _).alloc (by simp) _
theorem Zei {w w1:World} (hb:Below (sp0 w).heap.size (sp0 w) w1):w1.heap[w.heap.size]?=some (.cells #[.int .i64 0,.int .i64 0,.int .i64 0,.int .i64 0] 79 (0,0))∧w1.heap[w.heap.size+1]?=some (.cells #[.int .i64 0,.int .i64 0] 32 (0,0)):=by
 constructor
 · rw[hb.block _ (by simp;omega),Below.heap_alloc _ _ _ (by simp),heap_alloc_new]
 · rw[hb.block _ (by simp)]
   have:=heap_alloc_new (w.alloc (.cells #[.int .i64 0,.int .i64 0,.int .i64 0,.int .i64 0] 79)) (.cells #[.int .i64 0,.int .i64 0] 32)
   simpa using this
section
variable {w:World} {F:Nat→Prop} {bd bn cap:Nat} {rn:List RN} {rv:Value} {s:List Nd} {rs:List Sp}
theorem rspan_no (hD:Zf w F bd bn cap rn rv s rs) (r:Int) (h:r < 0∨(rs.length:Int)≤r) :
 Calls Tryz.prog 84 #[.pointer (some ⟨bd,0,none⟩),.int .i64 r] w fun e w'=>e=.returned (.tuple #[spV ⟨0,0,0,0⟩,Zi r 8])∧Below w.heap.size w w':=by
 have CR:=hid (fun W (hb:Below w.heap.size w W)=>ZaU (hD.below hb) r h)
 have h1b:((8:Int) == 0)=false:=rfl
 clear hD h
 go_enter Tryz.func84,Tryz.ntmps84
 go_wp2_with (first
  | (go_at_call 131;refine(CR.out _ (Jo w)).mono ?_;rintro e w1 ⟨rfl,hb1⟩
     have H1:=hid hb1
     have hs1:=hb1.size
     clear hb1)
  | (go_at_call 124;refine(Zy r 8 _).mono ?_;rintro e w2 ⟨rfl,hb2⟩
     have hf2:w2.heap[w1.heap.size]?=some (.cells #[.int .i64 r,.int .i64 8] 32 (0,0)):=(hb2.block _ (by simp)).trans (heap_alloc_new w1 _)
     have hB2:Below (sp0 w).heap.size (sp0 w) w2:=(H1.out.alloc H1.out.size _).trans (hb2.mono (Nat.le_trans H1.out.size (by simp)))
     obtain⟨s1,s2⟩:=Zei hB2
     have cf0:w2.cell? ⟨w1.heap.size,0,none⟩=some (.int .i64 r):=Za hf2 0
     have cf1:w2.cell? ⟨w1.heap.size,1,none⟩=some (.int .i64 8):=Za hf2 1
     have za0:w2.cell? ⟨w.heap.size,0,none⟩=some (.int .i64 0):=Za s1 0
     have za1:w2.cell? ⟨w.heap.size,1,none⟩=some (.int .i64 0):=Za s1 1
     have za2:w2.cell? ⟨w.heap.size,2,none⟩=some (.int .i64 0):=Za s1 2
     have za3:w2.cell? ⟨w.heap.size,3,none⟩=some (.int .i64 0):=Za s1 3
     have zb0:w2.cell? ⟨w.heap.size+1,0,none⟩=some (.int .i64 0):=Za s2 0
     have zb1:w2.cell? ⟨w.heap.size+1,1,none⟩=some (.int .i64 0):=Za s2 1
     have fa0:=Zd s1 0
     have fa1:=Zd s1 1
     have fa2:=Zd s1 2
     have fa3:=Zd s1 3
     have fb0:=Zd s2 0
     have fb1:=Zd s2 1
     have hsa:=Zc s2
     have hsf:=Zc hf2
     have hne:¬ w1.heap.size=w.heap.size:=by simp at hs1;omega
     have hne':¬ w1.heap.size=w.heap.size+1:=by simp at hs1;omega
     have HB2:=hid ((Jo w).trans (hB2.mono (Jo w).size))
     skip
     clear hb2 hf2 hB2 s1 s2
     rw[h1b]))
 go_region
 all_goals
  go_wp2
  refine bodyPost_ret (v:=.tuple #[spV ⟨0,0,0,0⟩,Zi r 8]) (by simp[results,Tryz.results84,go_sem, *]) rfl ?_
  refine⟨rfl,?_⟩
  have hB:=HB2.out
  have hz:=hB.size
  go_grown
theorem rspan_ok (hD:Zf w F bd bn cap rn rv s rs) (r:Nat) (x:Sp) (hx:rs[r]?=some x) :
 Calls Tryz.prog 84 #[.pointer (some ⟨bd,0,none⟩),.int .i64 (r:Int)] w fun e w'=>e=.returned (.tuple #[spV x,Zi 0 0])∧Below w.heap.size w w':=by
 have hr:r<rs.length:=(List.getElem?_eq_some_iff.1 hx).1
 have CR:=hid (fun W (hb:Below w.heap.size w W)=>YU (hD.below hb) r hr)
 have h1b:((0:Int) == 0)=true:=rfl
 have hlt:=hD.lt
 have hrv:=hD.rangesCell
 obtain⟨g,rc,hrve⟩:∃ g c,rv=.slice (some ⟨g,0,none⟩) rs.length c:=by
  rcases ZB hD.ranges with ⟨_,h0⟩|⟨g,c,h⟩
  · omega
  · exact⟨g,c,h⟩
 have hrow:=hD.ranges
 rw[hrve] at hrv hrow
 have hgl:g<w.heap.size:=(hrow.lt g rfl).2
 have e0:w.cell? ⟨g,r*4,none⟩=some (.int .i64 x.a):=by have:=hrow.cellAt (r*4+0) (by omega);rw[ZX rs r x hx 0 (by omega)] at this;simpa[Sp.cells] using this
 have e1:w.cell? ⟨g,r*4+1,none⟩=some (.int .i64 x.b):=by have:=hrow.cellAt (r*4+1) (by omega);rw[ZX rs r x hx 1 (by omega)] at this;simpa[Sp.cells] using this
 have e2:w.cell? ⟨g,r*4+2,none⟩=some (.int .i64 x.c):=by have:=hrow.cellAt (r*4+2) (by omega);rw[ZX rs r x hx 2 (by omega)] at this;simpa[Sp.cells] using this
 have e3:w.cell? ⟨g,r*4+3,none⟩=some (.int .i64 x.d):=by have:=hrow.cellAt (r*4+3) (by omega);rw[ZX rs r x hx 3 (by omega)] at this;simpa[Sp.cells] using this
 clear hD hrow hx
 go_enter Tryz.func84,Tryz.ntmps84
 go_wp2_with (first
  | (go_at_call 131;refine(CR.out _ (Jo w)).mono ?_;rintro e w1 ⟨rfl,hb1⟩
     have H1:=hid hb1
     have hs1:=hb1.size
     clear hb1)
  | (go_at_call 124;refine(Zy 0 0 _).mono ?_;rintro e w2 ⟨rfl,hb2⟩
     have hf2:w2.heap[w1.heap.size]?=some (.cells #[.int .i64 0,.int .i64 0] 32 (0,0)):=(hb2.block _ (by simp)).trans (heap_alloc_new w1 _)
     have hB2:Below (sp0 w).heap.size (sp0 w) w2:=(H1.out.alloc H1.out.size _).trans (hb2.mono (Nat.le_trans H1.out.size (by simp)))
     obtain⟨s1,s2⟩:=Zei hB2
     have cf0:w2.cell? ⟨w1.heap.size,0,none⟩=some (.int .i64 0):=Za hf2 0
     have cf1:w2.cell? ⟨w1.heap.size,1,none⟩=some (.int .i64 0):=Za hf2 1
     have za0:w2.cell? ⟨w.heap.size,0,none⟩=some (.int .i64 0):=Za s1 0
     have za1:w2.cell? ⟨w.heap.size,1,none⟩=some (.int .i64 0):=Za s1 1
     have za2:w2.cell? ⟨w.heap.size,2,none⟩=some (.int .i64 0):=Za s1 2
     have za3:w2.cell? ⟨w.heap.size,3,none⟩=some (.int .i64 0):=Za s1 3
     have zb0:w2.cell? ⟨w.heap.size+1,0,none⟩=some (.int .i64 0):=Za s2 0
     have zb1:w2.cell? ⟨w.heap.size+1,1,none⟩=some (.int .i64 0):=Za s2 1
     have fa0:=Zd s1 0
     have fa1:=Zd s1 1
     have fa2:=Zd s1 2
     have fa3:=Zd s1 3
     have fb0:=Zd s2 0
     have fb1:=Zd s2 1
     have hsa:=Zc s2
     have hsf:=Zc hf2
     have hne:¬ w1.heap.size=w.heap.size:=by simp at hs1;omega
     have hne':¬ w1.heap.size=w.heap.size+1:=by simp at hs1;omega
     have HB2:=hid ((Jo w).trans (hB2.mono (Jo w).size))
     have d0:=(HB2.out.cell (p:=⟨bd,1,none⟩) hlt.1).trans hrv
     have m0:=(HB2.out.cell (p:=⟨g,r*4,none⟩) hgl).trans e0
     have m1:=(HB2.out.cell (p:=⟨g,r*4+1,none⟩) hgl).trans e1
     have m2:=(HB2.out.cell (p:=⟨g,r*4+2,none⟩) hgl).trans e2
     have m3:=(HB2.out.cell (p:=⟨g,r*4+3,none⟩) hgl).trans e3
     have hgn:¬ w.heap.size=g:=by omega
     have hgn1:¬ w.heap.size+1=g:=by omega
     clear hb2 hf2 hB2 s1 s2
     rw[h1b]))
 go_region
 all_goals
  go_wp2
  refine bodyPost_ret (v:=.tuple #[spV x,Zi 0 0]) (by simp[results,Tryz.results84,go_sem, *]) rfl ?_
  refine⟨rfl,?_⟩
  have hB:=HB2.out
  have hz:=hB.size
  go_grown
end
end
section
open Go.RowKit
theorem Tryz.info79:(Tryz.prog.info? 79).map (fun i=>(i.zero,i.size,i.bytes))=some (some (.agg #[.int .i64 0,.int .i64 0,.int .i64 0,.int .i64 0]),4,32):=by kernel_rfl
section
variable {w:World} {F:Nat→Prop} {bd bn cap:Nat} {rn:List RN} {rv:Value} {s:List Nd} {rs:List Sp}
theorem Zf.newRanges (h:Zf w F bd bn cap rn rv s rs) {w1:World} {v':Value} {rs':List Sp} {B:Nat} (hB:B≤w.heap.size) (hk1:Zb (fun b=>rv.ownBlock=some b) w w1)
 (ho:w1.ownsRow 0 79 4 v' rs'.length (rs'.flatMap Sp.cells)) (hgn:∀ b,v'.ownBlock=some b→rv.ownBlock=some b∨w.heap.size≤b) :
 Zf (w1.setCell ⟨bd,1,none⟩ v') (fun b=>F b∨B≤b) bd bn cap rn v' s rs':=by
 have hlt:=h.lt
 have hbd:rv.ownBlock≠some bd:=fun e=>(h.apart bd e).2.1 rfl
 have hbn:rv.ownBlock≠some bn:=fun e=>(h.apart bn e).2.2 rfl
 have hk:Zb (fun b=>rv.ownBlock=some b∨b=bd) w (w1.setCell ⟨bd,1,none⟩ v'):=(hk1.mono (fun k _ e=>.inl e)).setCell (p:=⟨bd,1,none⟩) (.inl (.inr rfl)) _
 have hv:v'.ownBlock≠some bd:=fun e=>by
  rcases hgn bd e with e|e
  · exact hbd e
  · omega
 have hvn:v'.ownBlock≠some bn:=fun e=>by
  rcases hgn bn e with e|e
  · exact hbn e
  · omega
 refine⟨?_,?_,XV ho hv _,.inl h.Fd,.inl h.Fn,h.ne,fun b e=>⟨?_,fun e2=>hv (by rw[← e2];exact e),fun e2=>hvn (by rw[← e2];exact e)⟩,h.len,fun i r x hr hx=>?_⟩
 · have e1:=(hk1.block bd hlt.1 hbd).trans h.doc
   rw[heap_setCell_same w1 bd 1 _ _ _ e1]
   simp
 · exact hk.row h.nodes (fun b e e2=>by
    cases e
    rcases e2 with e2|e2
    · exact hbn e2
    · exact h.ne e2.symm)
 · rcases hgn b e with e|e
   · exact .inl (h.apart b e).1
   · exact .inr (by omega)
 · have o:=h.ok i r x hr hx
   have far:∀ b,b<w.heap.size→rv.ownBlock≠some b→v'.ownBlock≠some b:=fun b hb hr e=>by
    rcases hgn b e with e|e
    · exact hr e
    · omega
   refine⟨o.t,o.p,hk.row o.chars (fun b e e2=>?_),hk.row o.kids (fun b e e2=>?_),fun b e=>?_,fun b e=>?_⟩
   · rcases e2 with e2|e2
     · exact(o.apartC b e).2.2.2 e2
     · exact(o.apartC b e).2.1 e2
   · rcases e2 with e2|e2
     · exact(o.apartK b e).2.2.2 e2
     · exact(o.apartK b e).2.1 e2
   · have a:=o.apartC b e
     exact⟨.inl a.1,a.2.1,a.2.2.1,far b (o.chars.lt b e).2 a.2.2.2⟩
   · have a:=o.apartK b e
     exact⟨.inl a.1,a.2.1,a.2.2.1,far b (o.kids.lt b e).2 a.2.2.2⟩
theorem ZhB (hD:Zf w F bd bn cap rn rv s rs) (h6:6≤rs.length) :
 Calls Tryz.prog 81 #[.pointer (some ⟨bd,0,none⟩)] w fun e w'=>e=.returned (.tuple #[.int .i64 0,Zi 0 7])∧Below w.heap.size w w':=by
 obtain⟨ra,rc,hrve⟩:=Zo hD.ranges
 have hrv:=hD.rangesCell
 rw[hrve] at hrv
 have hl:bd<w.heap.size:=hD.lt.1
 clear hD
 have h1:(6:Int)≤rs.length:=by omega
 go_enter Tryz.func81,Tryz.ntmps81
 go_wp2_with (go_at_call 48;refine(ZK _ _ _).mono ?_;rintro e w' ⟨rfl,rfl⟩)
 go_returns
 exact⟨rfl,by go_grown⟩
theorem ZhC (hD:Zf w F bd bn cap rn rv s rs) (h6:rs.length < 6) :
 Calls Tryz.prog 81 #[.pointer (some ⟨bd,0,none⟩)] w fun e w'=>e=.returned (.tuple #[.int .i64 rs.length,Zi 0 0])∧Zb F w w'∧RDoc w' (fun b=>F b∨w.heap.size≤b) bd s (rs++[⟨0,0,0,0⟩]):=by
 obtain⟨i0,hi,hz0,hz1,hz2⟩:=info_parts Tryz.info79
 obtain⟨ra,rc,hrve⟩:=Zo hD.ranges
 have hrv:=hD.rangesCell
 rw[hrve] at hrv
 have hlt:=hD.lt
 have h1:¬ (6:Int)≤rs.length:=by omega
 have hD2:Zf ((w.alloc (.cells #[.int .i64 0,.int .i64 0] 32)).alloc (.cells #[.int .i64 0,.int .i64 0,.int .i64 0,.int .i64 0] 79)) (fun b=>F b∧b<w.heap.size) bd bn cap rn rv s rs:=hD.narrow.below (((Below.refl _ w).alloc (Nat.le_refl _) _).alloc (by simp) _)
 have hrow:=hD2.ranges
 rw[hrve] at hrow
 have src:∀ (j:Nat) (u:Value),[Value.int .i64 0,.int .i64 0,.int .i64 0,.int .i64 0][j]?=some u→((w.alloc (.cells #[.int .i64 0,.int .i64 0] 32)).alloc (.cells #[.int .i64 0,.int .i64 0,.int .i64 0,.int .i64 0] 79)).cell? ((⟨w.heap.size+1,0,none⟩:Addr).add j)=some u:=by
  have:=World.news_of_block (heap_alloc_new (w.alloc (.cells #[.int .i64 0,.int .i64 0] 32)) (.cells #[.int .i64 0,.int .i64 0,.int .i64 0,.int .i64 0] 79))
  simpa using this
 have hq2:((w.alloc (.cells #[.int .i64 0,.int .i64 0] 32)).alloc (.cells #[.int .i64 0,.int .i64 0,.int .i64 0,.int .i64 0] 79)).heap[w.heap.size]?=some (.cells #[.int .i64 0,.int .i64 0] 32 (0,0)):=by
  rw[Below.heap_alloc _ _ _ (by simp),heap_alloc_new]
 have hbd:(Value.slice ra rs.length rc).ownBlock≠some bd:=fun e=>(hD.apart bd (by rw[hrve];exact e)).2.1 rfl
 have hbl:∀ b,(Value.slice ra rs.length rc).ownBlock=some b→b<w.heap.size:=fun b e=>(hD.ranges.lt b (by rw[hrve];exact e)).2
 have SRC:=hid src
 have HD:=hid hD2
 have HO:=hid hD
 have HQ:=hid hq2
 have HROW:=hid hrow
 have HBD:=hid (And.intro hbd hbl)
 have HRV:=hid hrve
 clear hD hD2 src hq2 hrow hbd hbl hrve
 go_enter Tryz.func81,Tryz.ntmps81
 go_wp2_with (
  at_builtin
  refine wpList_append_lies _ rfl (.tmp 15) (.tmp 17) 121 rfl 0 79 i0 _ 4 32 Tryz.underlying121 hi hz0 hz1 hz2 rfl (by decide) (.slice ra rs.length rc) rs.length _ rfl HROW.out ⟨w.heap.size+1,0,none⟩ 1 1 [.int .i64 0,.int .i64 0,.int .i64 0,.int .i64 0] rfl rfl SRC.out (by simp[Value.oneCell']) (by decide) (by unfold maxLen;omega) (by omega) (Nat.zero_le _) (w.heap.size+2) (by simp) ?_
  intro g cap' w1 ho hg hgn _
  have hk1:Zb (fun b=>(Value.slice ra rs.length rc).ownBlock=some b) ((w.alloc (.cells #[.int .i64 0,.int .i64 0] 32)).alloc (.cells #[.int .i64 0,.int .i64 0,.int .i64 0,.int .i64 0] 79)) w1:=Zb.grown hg (fun k e=>.inl e)
  have hd1:=(hk1.block bd (by simp only[World.size_alloc];omega) HBD.out.1).trans HD.out.doc
  have hc1:w1.cell? ⟨bd,1,none⟩=some rv:=Za hd1 1
  have hf1:=Zd hd1 1
  have hq1:=(hk1.block w.heap.size (by simp only[World.size_alloc];omega) (fun e=>by have:=HBD.out.2 _ e;omega)).trans HQ.out
  have hc2:w1.cell? ⟨w.heap.size,0,none⟩=some (.int .i64 0):=Za hq1 0
  have hc3:w1.cell? ⟨w.heap.size,1,none⟩=some (.int .i64 0):=Za hq1 1
  have hf2:=Zd hq1 0
  have hf3:=Zd hq1 1
  have hne:¬ bd=w.heap.size:=by omega
  have HK:=hid hk1
  have HO2:=hid ho
  have HN:=hid hgn
  clear hd1 hq1 hg ho hgn hk1)
 refine bodyPost_ret (v:=.tuple #[.int .i64 rs.length,Zi 0 0]) (by simp[results,Tryz.results81,go_sem, *]) rfl ?_
 have hk0:Zb F w w1:=(((Zb.refl F w).alloc _).alloc _).trans (HK.out.mono (fun b _ e=>.inl (HO.out.apart b (by rw[HRV.out];exact e)).1))
 refine⟨rfl,((hk0.setCell (p:=⟨bd,1,none⟩) (.inl HO.out.Fd) _).setCell (p:=⟨w.heap.size,0,none⟩) (.inr (Nat.le_refl _)) _).setCell (p:=⟨w.heap.size,1,none⟩) (.inr (Nat.le_refl _)) _,bn,cap,rn,.slice (some ⟨g,0,none⟩) (rs.length+1) cap',?_⟩
 have hp:=HD.out.newRanges (v':=.slice (some ⟨g,0,none⟩) (rs.length+1) cap') (rs':=rs++[⟨0,0,0,0⟩]) (B:=w.heap.size+1) (by simp only[World.size_alloc];omega) (by rw[HRV.out];exact HK.out)
  (by rw[List.length_append,List.flatMap_append];exact HO2.out) (fun b e=>by
    cases e
    rcases HN.out with e|e
    · exact .inl (by rw[HRV.out];exact e)
    · exact .inr (by simp only[World.size_alloc];omega))
 have hk3:Zb (fun b=>b=w.heap.size) (w1.setCell ⟨bd,1,none⟩ (.slice (some ⟨g,0,none⟩) (rs.length+1) cap')) _ :=
  ((Zb.refl (fun b=>b=w.heap.size) _).setCell (p:=⟨w.heap.size,0,none⟩) (.inl rfl) (.int .i64 0)).setCell (p:=⟨w.heap.size,1,none⟩) (.inl rfl) (.int .i64 0)
 refine(hp.keeps hk3 ?_).wider ?_
 · intro b hb e
   rcases hb with hb|hb <;> omega
 · intro b hb
   rcases hb with hb|hb
   · exact .inl hb.1
   · exact .inr (by omega)
end
end
end Go.Proofs.YtabogkonklplcaaGreatDoor
