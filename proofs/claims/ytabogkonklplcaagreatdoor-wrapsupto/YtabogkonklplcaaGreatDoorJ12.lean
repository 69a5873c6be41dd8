import Derived.Test.YtabogkonklplcaaGreatDoorJ06
import Derived.Shelf.Strings.Builder1
import Derived.Shelf.Strings.Builder2
import Derived.Shelf.Strings.OnBuilder
import Derived.Shelf.Small.Wraps
import Derived.Shelf.Strings.BuilderF
import Derived.Shelf.Strings.BuilderK
import Derived.Shelf.Strings.BuilderRune
import Derived.Shelf.Utf8.AppendRune
import Derived.Shelf.Utf8.AppendRunePlain
import Derived.Shelf.Strings.Builder2Cap
import Derived.Shelf.Strconv.Itoa0
import Derived.Shelf.Strconv.Itoa1
import Derived.Shelf.LaysM
import Derived.Shelf.Strconv.Itoa2
import Derived.Shelf.Strconv.Itoa3
import Derived.Shelf.Strconv.Clone
import Derived.Shelf.Unicode.DecodeSlow
import Derived.Shelf.Unicode.DecodeAny
import Derived.Shelf.Strings.BuilderCap
import Derived.Shelf.Slices.Turned
import Derived.Shelf.Slices.Reverse
import Derived.Ground.Names2Prog
import Derived.Shelf.Slices.SearchI
import Derived.Shelf.Slices.Delete
import Derived.Shelf.Slices.Cells
import Derived.Shelf.Slices.Empties
import Derived.Test.YtabogkonklplcaaGreatDoorProg
import Derived.Test.YtabogkonklplcaaGreatDoorJ11
namespace Go.Proofs.YtabogkonklplcaaGreatDoor
set_option linter.unusedSimpArgs false
set_option linter.unusedVariables false
set_option maxRecDepth 20000
set_option maxHeartbeats 8000000
section
open Go.RowKit
structure PN where
 p:Int
 t:Bool
 kv:Value
 ch:ByteArray
def PN.cells (r:PN):List Value:=[.int .i64 r.p,.bool r.t,r.kv,.string r.ch]
theorem ZgY (rn:List PN) (i:Nat) (r:PN) (h:rn[i]?=some r) (j:Nat) (hj:j < 4):(rn.flatMap PN.cells)[i * 4+j]?=r.cells[j]?:=by
 induction rn generalizing i with
 | nil=>simp at h
 | cons a l ih =>
   cases i with
   | zero =>
     simp at h;subst h
     rw[List.flatMap_cons,Nat.zero_mul,Nat.zero_add,List.getElem?_append_left (by simpa[PN.cells] using hj)]
   | succ i =>
     have e:(i+1)*4+j=(i*4+j)+4:=by omega
     rw[e,List.flatMap_cons,List.getElem?_append_right (by simp[PN.cells])]
     simpa[PN.cells] using ih i (by simpa using h)
theorem ZdR (rn:List PN) (i:Nat) (r r':PN) (h:rn[i]?=some r) (j:Nat) (hj:j < 4) (u:Value) (he:r'.cells=r.cells.set j u) :
 (rn.flatMap PN.cells).set (i*4+j) u=(rn.set i r').flatMap PN.cells:=by
 induction rn generalizing i with
 | nil=>simp at h
 | cons a l ih =>
   cases i with
   | zero =>
     simp at h;subst h
     simp only[List.flatMap_cons,List.set_cons_zero,Nat.zero_mul,Nat.zero_add]
     rw[List.set_append_left _ _ (by simpa[PN.cells] using hj),← he]
   | succ i =>
     have e:(i+1)*4+j=(i*4+j)+4:=by omega
     simp only[List.flatMap_cons,List.set_cons_succ]
     rw[e,List.set_append_right _ _ (by simp[PN.cells])]
     congr 1
     simpa[PN.cells] using ih i (by simpa using h)
def catB (l:List ByteArray):ByteArray:=l.foldl (·++·) ⟨#[]⟩
structure POk (w:World) (F:Nat→Prop) (bf bn:Nat) (r:PN) (x:Nd):Prop where
 t:r.t=x.t
 p:r.p=x.p
 ch:r.ch=catB x.cs
 kids:w.ownsRow 0 3 1 r.kv x.ks.length (Zg x.ks)
 apart:∀ b,r.kv.ownBlock=some b→F b∧b≠bf∧b≠bn
structure Zh (w:World) (F:Nat→Prop) (bf bn cap:Nat) (pn:List PN) (s:List Nd):Prop where
 forest:w.heap[bf]?=some (.cells #[.slice (some ⟨bn,0,none⟩) pn.length cap] 167 (0,0))
 nodes:w.ownsRow 0 164 4 (.slice (some ⟨bn,0,none⟩) pn.length cap) pn.length (pn.flatMap PN.cells)
 Ff:F bf
 Fn:F bn
 ne:bf≠bn
 len:pn.length=s.length
 ok:∀ (i:Nat) (r:PN) (x:Nd),pn[i]?=some r→s[i]?=some x→POk w F bf bn r x
 sep:∀ (i j:Nat) (r r':PN),i≠j→pn[i]?=some r→pn[j]?=some r'→∀ b,r.kv.ownBlock=some b→r'.kv.ownBlock≠some b
def PFor (w:World) (F:Nat→Prop) (bf:Nat) (s:List Nd):Prop:=∃ bn cap pn,Zh w F bf bn cap pn s
section
variable {w:World} {F:Nat→Prop} {bf bn cap:Nat} {pn:List PN} {s:List Nd}
theorem Zh.nodesCell (h:Zh w F bf bn cap pn s):w.cell? ⟨bf,0,none⟩=some (.slice (some ⟨bn,0,none⟩) s.length cap):=by
 rw[Za h.forest,← h.len];rfl
theorem Zh.lt (h:Zh w F bf bn cap pn s):bf < w.heap.size∧bn < w.heap.size:=⟨Zc h.forest,(h.nodes.lt bn rfl).2⟩
theorem Zh.raw (h:Zh w F bf bn cap pn s) {i:Nat} {x:Nd} (hx:s[i]?=some x):∃ r,pn[i]?=some r∧POk w F bf bn r x:=by
 have hi:i<pn.length:=by rw[h.len];exact(List.getElem?_eq_some_iff.1 hx).1
 exact⟨pn[i],List.getElem?_eq_getElem hi,h.ok i _ x (List.getElem?_eq_getElem hi) hx⟩
theorem Zh.cellAt (h:Zh w F bf bn cap pn s) {i:Nat} {r:PN} (hr:pn[i]?=some r) (j:Nat) (hj:j < 4):w.cell? ⟨bn,i * 4+j,none⟩=r.cells[j]?:=by
 have hi:=(List.getElem?_eq_some_iff.1 hr).1
 rw[h.nodes.cellAt (i*4+j) (by omega),ZgY pn i r hr j hj]
theorem Zh.look (h:Zh w F bf bn cap pn s) {i:Nat} {x:Nd} (hx:s[i]?=some x):∃ r,pn[i]?=some r∧POk w F bf bn r x ∧
 w.cell? ⟨bn,i*4,none⟩=some (.int .i64 x.p)∧w.cell? ⟨bn,i*4+1,none⟩=some (.bool x.t)∧w.cell? ⟨bn,i*4+2,none⟩=some r.kv∧w.cell? ⟨bn,i*4+3,none⟩=some (.string (catB x.cs)):=by
 obtain⟨r,hr,ho⟩:=h.raw hx
 have h0:=h.cellAt hr 0 (by omega)
 have h1:=h.cellAt hr 1 (by omega)
 have h2:=h.cellAt hr 2 (by omega)
 have h3:=h.cellAt hr 3 (by omega)
 refine⟨r,hr,ho,?_,?_,?_,?_⟩
 · simpa[PN.cells,ho.p] using h0
 · simpa[PN.cells,ho.t] using h1
 · simpa[PN.cells] using h2
 · simpa[PN.cells,ho.ch] using h3
theorem POk.keeps {G:Nat→Prop} {w':World} {r:PN} {x:Nd} (o:POk w F bf bn r x) (hk:Zb G w w') (hG:∀ b,r.kv.ownBlock=some b→¬ G b):POk w' F bf bn r x :=
 ⟨o.t,o.p,o.ch,hk.row o.kids hG,o.apart⟩
theorem Zh.keeps {G:Nat→Prop} {w':World} (h:Zh w F bf bn cap pn s) (hk:Zb G w w') (hG:∀ b,F b→¬ G b):Zh w' F bf bn cap pn s where
 forest:=by rw[hk.block bf (Zc h.forest) (hG _ h.Ff)];exact h.forest
 nodes:=hk.row h.nodes (fun b e=>by cases e;exact hG _ h.Fn)
 Ff:=h.Ff
 Fn:=h.Fn
 ne:=h.ne
 len:=h.len
 ok:=fun i r x hr hx=>(h.ok i r x hr hx).keeps hk (fun b e=>hG _ ((h.ok i r x hr hx).apart b e).1)
 sep:=h.sep
theorem Zh.below {w':World} (h:Zh w F bf bn cap pn s) (hk:Below w.heap.size w w'):Zh w' F bf bn cap pn s :=
 h.keeps (Zb.of_below (F:=fun _=>False) hk) (fun _ _ e=>e)
theorem Zh.wider {G:Nat→Prop} (h:Zh w F bf bn cap pn s) (hG:∀ b,F b→G b):Zh w G bf bn cap pn s where
 forest:=h.forest
 nodes:=h.nodes
 Ff:=hG _ h.Ff
 Fn:=hG _ h.Fn
 ne:=h.ne
 len:=h.len
 ok:=fun i r x hr hx =>
  have o:=h.ok i r x hr hx
  ⟨o.t,o.p,o.ch,o.kids,fun b e=>⟨hG _ (o.apart b e).1,(o.apart b e).2⟩⟩
 sep:=h.sep
theorem Zh.narrow (h:Zh w F bf bn cap pn s):Zh w (fun b=>F b∧b < w.heap.size) bf bn cap pn s where
 forest:=h.forest
 nodes:=h.nodes
 Ff:=⟨h.Ff,h.lt.1⟩
 Fn:=⟨h.Fn,h.lt.2⟩
 ne:=h.ne
 len:=h.len
 ok:=fun i r x hr hx =>
  have o:=h.ok i r x hr hx
  ⟨o.t,o.p,o.ch,o.kids,fun b e=>⟨⟨(o.apart b e).1,(o.kids.lt b e).2⟩,(o.apart b e).2⟩⟩
 sep:=h.sep
theorem Zh.drewN (h:Zh w F bf bn cap pn s) (n:Nat):Zh (w.drewN n) F bf bn cap pn s :=
 h.keeps (G:=fun _=>False) ⟨rfl,rfl,rfl,Nat.le_refl _,fun _ _ _=>rfl⟩ (fun _ _ e=>e)
theorem Zh.drew (h:Zh w F bf bn cap pn s):Zh w.drew F bf bn cap pn s:=h.drewN 1
theorem Zh.pushed (h:Zh w F bf bn cap pn s) {w1:World} {g cap' B:Nat} {r:PN} {x:Nd} (hB:B≤w.heap.size) (hg:w.grownBy w1 (some bn))
 (ho:w1.ownsRow 0 164 4 (.slice (some ⟨g,0,none⟩) (pn.length+1) cap') (pn.length+1) (pn.flatMap PN.cells++r.cells)) (hgn:g=bn∨g=w.heap.size)
 (hn:r.kv=.slice none 0 0∧r.t=x.t∧r.p=x.p∧r.ch=catB x.cs∧x.ks=[]) :
 Zh (w1.setCell ⟨bf,0,none⟩ (.slice (some ⟨g,0,none⟩) (pn.length+1) cap')) (fun b=>F b∨B≤b) bf g cap' (pn++[r]) (s++[x]):=by
 have hlt:=h.lt
 have hgd:bf≠g:=by
  rcases hgn with e|e
  · rw[e];exact h.ne
  · omega
 have hk1:Zb (fun b=>b=bn) w w1:=Zb.grown hg (fun k e=>by cases e;exact .inl rfl)
 have hk:Zb (fun b=>b=bn∨b=bf) w (w1.setCell ⟨bf,0,none⟩ (.slice (some ⟨g,0,none⟩) (pn.length+1) cap')) :=
  (hk1.mono (fun k _ e=>.inl e)).setCell (p:=⟨bf,0,none⟩) (.inl (.inr rfl)) _
 have far:∀ b,b<w.heap.size→b≠bn→b≠g:=fun b hb hbn=>by
  rcases hgn with e|e
  · rw[e];exact hbn
  · omega
 refine⟨?_,?_,.inl h.Ff,?_,hgd,by simp[h.len],?_,?_⟩
 · have e1:w1.heap[bf]?=_:=(hk1.block bf hlt.1 h.ne).trans h.forest
   rw[heap_setCell_same w1 bf 0 _ _ _ e1]
   simp
 · rw[List.length_append,List.flatMap_append]
   simpa using XV ho (p:=⟨bf,0,none⟩) (by simp[Value.ownBlock];exact fun e=>hgd e.symm) _
 · rcases hgn with e|e
   · rw[e];exact .inl h.Fn
   · exact .inr (by omega)
 · intro i r1 x1 h1 h2
   by_cases hi:i<pn.length
   · rw[List.getElem?_append_left hi] at h1
     rw[List.getElem?_append_left (by rw[← h.len];exact hi)] at h2
     have o:=h.ok i r1 x1 h1 h2
     refine⟨o.t,o.p,o.ch,hk.row o.kids (fun b e e2=>?_),fun b e=>⟨.inl (o.apart b e).1,(o.apart b e).2.1,far b (o.kids.lt b e).2 (o.apart b e).2.2⟩⟩
     rcases e2 with e2|e2
     · exact(o.apart b e).2.2 e2
     · exact(o.apart b e).2.1 e2
   · have hi1:=(List.getElem?_eq_some_iff.1 h1).1
     simp at hi1
     have ei:i=pn.length:=by omega
     subst ei
     rw[List.getElem?_append_right (Nat.le_refl _)] at h1
     rw[List.getElem?_append_right (by rw[← h.len];exact Nat.le_refl _)] at h2
     simp at h1
     simp[h.len] at h2
     subst h1
     subst h2
     obtain⟨e1,e2,e3,e4,e5⟩:=hn
     refine⟨e2,e3,e4,?_,?_⟩
     · rw[e1,e5];exact World.ownsRow_nil _ _ _ _
     · rw[e1];intro b e;cases e
 · intro i j r1 r2 hij h1 h2 b e
   have hnil:r.kv.ownBlock=none:=by rw[hn.1];rfl
   by_cases hi:i<pn.length
   · rw[List.getElem?_append_left hi] at h1
     by_cases hj:j<pn.length
     · rw[List.getElem?_append_left hj] at h2
       exact h.sep i j r1 r2 hij h1 h2 b e
     · rw[List.getElem?_append_right (by omega)] at h2
       have hj1:=(List.getElem?_eq_some_iff.1 h2).1
       simp at hj1
       have:j - pn.length=0:=by omega
       rw[this] at h2
       simp at h2
       subst h2
       rw[hnil];simp
   · rw[List.getElem?_append_right (by omega)] at h1
     have hj1:=(List.getElem?_eq_some_iff.1 h1).1
     simp at hj1
     have:i - pn.length=0:=by omega
     rw[this] at h1
     simp at h1
     subst h1
     rw[hnil] at e;cases e
theorem Zh.setNode (h:Zh w F bf bn cap pn s) {i:Nat} {r r':PN} {x x':Nd} (hr:pn[i]?=some r) (hx:s[i]?=some x) (j:Nat) (hj:j < 4) (u:Value) (he:r'.cells=r.cells.set j u) (ho:POk w F bf bn r' x')
 (hs:∀ (k:Nat) (r1:PN),k≠i→pn[k]?=some r1→∀ b,r'.kv.ownBlock=some b→r1.kv.ownBlock≠some b) :
 Zh (w.setCell ⟨bn,i*4+j,none⟩ u) F bf bn cap (pn.set i r') (s.set i x'):=by
 have hk:Zb (fun b=>b=bn) w (w.setCell ⟨bn,i*4+j,none⟩ u):=(Zb.refl (fun b=>b=bn) w).setCell (p:=⟨bn,i*4+j,none⟩) (.inl rfl) u
 have hi:=(List.getElem?_eq_some_iff.1 hr).1
 have hi':=(List.getElem?_eq_some_iff.1 hx).1
 refine⟨?_,?_,h.Ff,h.Fn,h.ne,by simpa using h.len,?_,?_⟩
 · rw[hk.block bf (Zc h.forest) h.ne,List.length_set];exact h.forest
 · have:=(h.nodes.stored (i*4+j) u).1
   rw[ZdR pn i r r' hr j hj u he] at this
   rw[List.length_set]
   exact this
 · intro k r1 x1 h1 h2
   rw[List.getElem?_set] at h1 h2
   by_cases hik:i=k
   · subst hik
     rw[if_pos rfl,if_pos hi] at h1
     rw[if_pos rfl,if_pos hi'] at h2
     cases h1
     cases h2
     exact ho.keeps hk (fun b e e2=>(ho.apart b e).2.2 e2)
   · rw[if_neg hik] at h1 h2
     have o:=h.ok k r1 x1 h1 h2
     exact o.keeps hk (fun b e e2=>(o.apart b e).2.2 e2)
 · intro a b ra rb hab h1 h2 c e
   rw[List.getElem?_set] at h1 h2
   by_cases ha:i=a
   · subst ha
     rw[if_pos rfl,if_pos hi] at h1
     cases h1
     rw[if_neg hab] at h2
     exact hs b rb (fun e=>hab e.symm) h2 c e
   · rw[if_neg ha] at h1
     by_cases hb:i=b
     · subst hb
       rw[if_pos rfl,if_pos hi] at h2
       cases h2
       intro e2
       exact hs a ra (fun e=>ha e.symm) h1 c e2 e
     · rw[if_neg hb] at h2
       exact h.sep a b ra rb hab h1 h2 c e
theorem Zh.newPar (h:Zh w F bf bn cap pn s) {i:Nat} {x:Nd} (p:Int) (hx:s[i]?=some x) :
 ∃ pn2,Zh (w.setCell ⟨bn,i*4,none⟩ (.int .i64 p)) F bf bn cap pn2 (s.set i { x with p:=p }):=by
 obtain⟨r,hr,ho⟩:=h.raw hx
 exact⟨_,h.setNode (r':={ r with p:=p }) hr hx 0 (by omega) _ rfl ⟨ho.t,rfl,ho.ch,ho.kids,ho.apart⟩ (fun k r1 hk h1 b e=>h.sep i k r r1 (fun e=>hk e.symm) hr h1 b e)⟩
end
end
end Go.Proofs.YtabogkonklplcaaGreatDoor
set_option linter.unusedSimpArgs false
set_option linter.unusedVariables false
set_option maxRecDepth 20000
set_option maxHeartbeats 8000000
namespace Go.Proofs
open Go.Shelf
def Tryz.lays169_ren:Go.Shelf.Ren:=⟨fun | 169=>148 | n=>n,fun | 70=>216 | 9=>9 | 0=>0 | 72=>219 | 37=>217 | 127=>252 | 3=>3 | 5=>5 | n=>n,fun | n=>n⟩
theorem Tryz.lays169:Go.Proofs.Lays.n169 Tryz.prog Tryz.lays169_ren:={
 mixed:=by kernel_rfl
 f169:=Tryz.func148.trans (congrArg some (by kernel_rfl))
 t0:=Tryz.underlying0
 a0:=Tryz.isAgg0
 z0:=Tryz.sizeOf0
 v0:=Tryz.zeroValue0
 t3:=Tryz.underlying3
 a3:=Tryz.isAgg3
 z3:=Tryz.sizeOf3
 v3:=Tryz.zeroValue3
 t9:=Tryz.underlying9
 a9:=Tryz.isAgg9
 z9:=Tryz.sizeOf9
 v9:=Tryz.zeroValue9
 t37:=Tryz.underlying217
 a37:=Tryz.isAgg217
 z37:=Tryz.sizeOf217
 v37:=Tryz.zeroValue217
 t70:=Tryz.underlying216
 a70:=Tryz.isAgg216
 z70:=Tryz.sizeOf216
 v70:=Tryz.zeroValue216
 t72:=Tryz.underlying219
 a72:=Tryz.isAgg219
 z72:=Tryz.sizeOf219
 v72:=Tryz.zeroValue219
 t127:=Tryz.underlying252
 a127:=Tryz.isAgg252
 z127:=Tryz.sizeOf252
 v127:=Tryz.zeroValue252 }
theorem Tryz.Builder_Extra_169:Builder.Extra Tryz.prog Tryz.lays169_ren:={
 sizeBuilder:=by kernel_rfl
 liesBuilder:=by kernel_rfl
 t5:=Tryz.underlying5
 a5:=Tryz.isAgg5
 z5:=Tryz.sizeOf5
 v5:=Tryz.zeroValue5
 infoByte:=by kernel_rfl
 cellsByte:=by kernel_rfl
 sizeByte:=by kernel_rfl
 neB5:=by decide }
open Go.RowKit in
theorem Tryz.Builder_String_any (B b:Nat) (l:List UInt8) (w:World) (h:Lib.IsBuilder 219 5 B b (Lib.byteCells l) w) (hBw:B≤w.heap.size) :
 Calls Tryz.prog 148 #[.pointer (some ⟨b,0,none⟩)] w fun e w'=>e=.returned (.string ⟨l.toArray⟩)∧Below B w w':=Any.Builder_String_any Tryz.lays169 Tryz.Builder_Extra_169 B b l w h hBw
def Tryz.lays156_ren:Go.Shelf.Ren:=⟨fun | 156=>161 | 165=>186 | 166=>174 | 169=>148 | 240=>184 | 241=>197 | 276=>195 | 277=>202 | n=>n,fun | 31=>107 | 9=>9 | 3=>3 | 4=>4 | 0=>0 | 20=>20 | 72=>219 | 76=>62 | 70=>216 | 37=>217 | 75=>29 | 127=>252 | 164=>203 | 5=>5 | 80=>221 | n=>n,fun | n=>n⟩
theorem Tryz.lays156:Go.Proofs.Lays.n156 Tryz.prog Tryz.lays156_ren:={
 mixed:=by kernel_rfl
 f156:=Tryz.func161.trans (congrArg some (by kernel_rfl))
 f165:=Tryz.func186.trans (congrArg some (by kernel_rfl))
 f166:=Tryz.func174.trans (congrArg some (by kernel_rfl))
 f169:=Tryz.func148.trans (congrArg some (by kernel_rfl))
 f240:=Tryz.func184.trans (congrArg some (by kernel_rfl))
 f241:=Tryz.func197.trans (congrArg some (by kernel_rfl))
 f276:=Tryz.func195.trans (congrArg some (by kernel_rfl))
 f277:=Tryz.func202.trans (congrArg some (by kernel_rfl))
 t0:=Tryz.underlying0
 a0:=Tryz.isAgg0
 z0:=Tryz.sizeOf0
 v0:=Tryz.zeroValue0
 t3:=Tryz.underlying3
 a3:=Tryz.isAgg3
 z3:=Tryz.sizeOf3
 v3:=Tryz.zeroValue3
 t4:=Tryz.underlying4
 a4:=Tryz.isAgg4
 z4:=Tryz.sizeOf4
 v4:=Tryz.zeroValue4
 t9:=Tryz.underlying9
 a9:=Tryz.isAgg9
 z9:=Tryz.sizeOf9
 v9:=Tryz.zeroValue9
 t20:=Tryz.underlying20
 a20:=Tryz.isAgg20
 z20:=Tryz.sizeOf20
 v20:=Tryz.zeroValue20
 t31:=Tryz.underlying107
 a31:=Tryz.isAgg107
 z31:=Tryz.sizeOf107
 v31:=Tryz.zeroValue107
 t37:=Tryz.underlying217
 a37:=Tryz.isAgg217
 z37:=Tryz.sizeOf217
 v37:=Tryz.zeroValue217
 t70:=Tryz.underlying216
 a70:=Tryz.isAgg216
 z70:=Tryz.sizeOf216
 v70:=Tryz.zeroValue216
 t72:=Tryz.underlying219
 a72:=Tryz.isAgg219
 z72:=Tryz.sizeOf219
 v72:=Tryz.zeroValue219
 t75:=Tryz.underlying29
 a75:=Tryz.isAgg29
 z75:=Tryz.sizeOf29
 v75:=Tryz.zeroValue29
 t76:=Tryz.underlying62
 a76:=Tryz.isAgg62
 z76:=Tryz.sizeOf62
 v76:=Tryz.zeroValue62
 t127:=Tryz.underlying252
 a127:=Tryz.isAgg252
 z127:=Tryz.sizeOf252
 v127:=Tryz.zeroValue252
 t164:=Tryz.underlying203
 a164:=Tryz.isAgg203
 z164:=Tryz.sizeOf203
 v164:=Tryz.zeroValue203 }
theorem Tryz.Builder_Extra_156:Builder.Extra Tryz.prog Tryz.lays156_ren:={
 sizeBuilder:=by kernel_rfl
 liesBuilder:=by kernel_rfl
 t5:=Tryz.underlying5
 a5:=Tryz.isAgg5
 z5:=Tryz.sizeOf5
 v5:=Tryz.zeroValue5
 infoByte:=by kernel_rfl
 cellsByte:=by kernel_rfl
 sizeByte:=by kernel_rfl
 neB5:=by decide }
open Go.RowKit in
theorem Tryz.strings_Join (bk o c:Nat) (xs:List ByteArray) (sep:ByteArray) (w:World) (hcells:∀ (j:Nat) x,xs[j]?=some x→w.cell? ⟨bk,o+j,none⟩=some (.string x)) (hbk:bk < w.heap.size) (hN:xs.length≤140737488355328) (hcap:xs.length≤c) (hlen:(Lib.join (xs.map (·.data.toList)) sep.data.toList).length≤140737488355328) :
 Calls Tryz.prog 161 #[.slice (some ⟨bk,o,none⟩) xs.length c,.string sep] w fun e w'=>e=.returned (.string ⟨(Lib.join (xs.map (·.data.toList)) sep.data.toList).toArray⟩)∧Below w.heap.size w w':=Any.strings_Join Tryz.lays156 Tryz.Builder_Extra_156 bk o c xs sep w hcells hbk hN hcap hlen
def Tryz.lays122_ren:Go.Shelf.Ren:=⟨fun | 122=>180 | 215=>193 | n=>n,fun | 3=>3 | 4=>4 | n=>n,fun | n=>n⟩
theorem Tryz.lays122:Go.Proofs.Lays.n122 Tryz.prog Tryz.lays122_ren:={
 mixed:=by kernel_rfl
 f122:=Tryz.func180.trans (congrArg some (by kernel_rfl))
 f215:=Tryz.func193.trans (congrArg some (by kernel_rfl))
 t3:=Tryz.underlying3
 a3:=Tryz.isAgg3
 z3:=Tryz.sizeOf3
 v3:=Tryz.zeroValue3
 t4:=Tryz.underlying4
 a4:=Tryz.isAgg4
 z4:=Tryz.sizeOf4
 v4:=Tryz.zeroValue4 }
open Go.RowKit in
theorem Tryz.cmp_Compare_int (x y:Int) (w:World) :
 Calls Tryz.prog 180 #[.int .i64 x,.int .i64 y] w fun e w'=>e=.returned (.int .i64 (Lib.compareInt x y))∧w'=w:=Any.cmp_Compare_int Tryz.lays122 x y w
def Tryz.lays242_ren:Go.Shelf.Ren:=⟨fun | 242=>185 | 278=>196 | n=>n,fun | 37=>217 | 21=>21 | 51=>264 | 4=>4 | 5=>5 | 46=>266 | n=>n,fun | n=>n⟩
theorem Tryz.lays242:Go.Proofs.Lays.n242 Tryz.prog Tryz.lays242_ren:={
 mixed:=by kernel_rfl
 f242:=Tryz.func185.trans (congrArg some (by kernel_rfl))
 f278:=Tryz.func196.trans (congrArg some (by kernel_rfl))
 t4:=Tryz.underlying4
 a4:=Tryz.isAgg4
 z4:=Tryz.sizeOf4
 v4:=Tryz.zeroValue4
 t5:=Tryz.underlying5
 a5:=Tryz.isAgg5
 z5:=Tryz.sizeOf5
 v5:=Tryz.zeroValue5
 t21:=Tryz.underlying21
 a21:=Tryz.isAgg21
 z21:=Tryz.sizeOf21
 v21:=Tryz.zeroValue21
 t37:=Tryz.underlying217
 a37:=Tryz.isAgg217
 z37:=Tryz.sizeOf217
 v37:=Tryz.zeroValue217
 t46:=Tryz.underlying266
 a46:=Tryz.isAgg266
 z46:=Tryz.sizeOf266
 v46:=Tryz.zeroValue266
 t51:=Tryz.underlying264
 a51:=Tryz.isAgg264
 z51:=Tryz.sizeOf264
 v51:=Tryz.zeroValue264 }
open Go.RowKit in
theorem Tryz.utf8_AppendRune_plain (B:Nat) (v:Value) (n:Nat) (xs:List Value) (r:Int) (hr0:-2147483648≤r) (hr1:r≤2147483647) (w:World) (hown:w.ownsRow B 5 1 v n xs) (hlen:n+4≤140737488355328) (hBw:B≤w.heap.size) :
 Calls Tryz.prog 185 #[v,.int .i32 r] w fun e w'=>∃ v',e=.returned v'∧w'.ownsRow B 5 1 v' (n+(Lib.runeCells r).length) (xs++Lib.runeCells r)∧∃ o,(w.alloc o).grownBy w' v.ownBlock:=Any.utf8_AppendRune_plain Tryz.lays242 (by kernel_rfl) B v n xs r hr0 hr1 w hown hlen hBw
def Tryz.lays171_ren:Go.Shelf.Ren:=⟨fun | 171=>175 | 243=>192 | 246=>201 | 283=>203 | 284=>204 | 285=>205 | 286=>206 | 129=>208 | 317=>207 | 318=>209 | 319=>210 | 320=>211 | 337=>212 | 338=>213 | n=>n,fun | 3=>3 | 9=>9 | 2=>2 | 4=>4 | 171=>272 | 0=>0 | 53=>273 | 37=>217 | 5=>5 | 173=>276 | 212=>279 | 51=>264 | 20=>20 | 213=>280 | 46=>266 | 232=>283 | 233=>284 | n=>n,fun | 17=>4 | 18=>5 | 19=>6 | n=>n⟩
theorem Tryz.lays171:Go.Proofs.Lays.n171 Tryz.prog Tryz.lays171_ren:={
 mixed:=by kernel_rfl
 f129:=Tryz.func208.trans (congrArg some (by kernel_rfl))
 f171:=Tryz.func175.trans (congrArg some (by kernel_rfl))
 f243:=Tryz.func192.trans (congrArg some (by kernel_rfl))
 f246:=Tryz.func201.trans (congrArg some (by kernel_rfl))
 f283:=Tryz.func203.trans (congrArg some (by kernel_rfl))
 f284:=Tryz.func204.trans (congrArg some (by kernel_rfl))
 f285:=Tryz.func205.trans (congrArg some (by kernel_rfl))
 f286:=Tryz.func206.trans (congrArg some (by kernel_rfl))
 f317:=Tryz.func207.trans (congrArg some (by kernel_rfl))
 f318:=Tryz.func209.trans (congrArg some (by kernel_rfl))
 f319:=Tryz.func210.trans (congrArg some (by kernel_rfl))
 f320:=Tryz.func211.trans (congrArg some (by kernel_rfl))
 f337:=Tryz.func212.trans (congrArg some (by kernel_rfl))
 f338:=Tryz.func213.trans (congrArg some (by kernel_rfl))
 t0:=Tryz.underlying0
 a0:=Tryz.isAgg0
 z0:=Tryz.sizeOf0
 v0:=Tryz.zeroValue0
 t2:=Tryz.underlying2
 a2:=Tryz.isAgg2
 z2:=Tryz.sizeOf2
 v2:=Tryz.zeroValue2
 t3:=Tryz.underlying3
 a3:=Tryz.isAgg3
 z3:=Tryz.sizeOf3
 v3:=Tryz.zeroValue3
 t4:=Tryz.underlying4
 a4:=Tryz.isAgg4
 z4:=Tryz.sizeOf4
 v4:=Tryz.zeroValue4
 t5:=Tryz.underlying5
 a5:=Tryz.isAgg5
 z5:=Tryz.sizeOf5
 v5:=Tryz.zeroValue5
 t9:=Tryz.underlying9
 a9:=Tryz.isAgg9
 z9:=Tryz.sizeOf9
 v9:=Tryz.zeroValue9
 t20:=Tryz.underlying20
 a20:=Tryz.isAgg20
 z20:=Tryz.sizeOf20
 v20:=Tryz.zeroValue20
 t37:=Tryz.underlying217
 a37:=Tryz.isAgg217
 z37:=Tryz.sizeOf217
 v37:=Tryz.zeroValue217
 t46:=Tryz.underlying266
 a46:=Tryz.isAgg266
 z46:=Tryz.sizeOf266
 v46:=Tryz.zeroValue266
 t51:=Tryz.underlying264
 a51:=Tryz.isAgg264
 z51:=Tryz.sizeOf264
 v51:=Tryz.zeroValue264
 t53:=Tryz.underlying273
 a53:=Tryz.isAgg273
 z53:=Tryz.sizeOf273
 v53:=Tryz.zeroValue273
 t171:=Tryz.underlying272
 a171:=Tryz.isAgg272
 z171:=Tryz.sizeOf272
 v171:=Tryz.zeroValue272
 t173:=Tryz.underlying276
 a173:=Tryz.isAgg276
 z173:=Tryz.sizeOf276
 v173:=Tryz.zeroValue276
 t212:=Tryz.underlying279
 a212:=Tryz.isAgg279
 z212:=Tryz.sizeOf279
 v212:=Tryz.zeroValue279
 t213:=Tryz.underlying280
 a213:=Tryz.isAgg280
 z213:=Tryz.sizeOf280
 t232:=Tryz.underlying283
 a232:=Tryz.isAgg283
 z232:=Tryz.sizeOf283
 v232:=Tryz.zeroValue283
 t233:=Tryz.underlying284
 a233:=Tryz.isAgg284
 z233:=Tryz.sizeOf284
 v233:=Tryz.zeroValue284
 g17:=by kernel_rfl
 g18:=by kernel_rfl
 g19:=by kernel_rfl }
open Go.RowKit Go.Sort Go.Lib in
theorem Tryz.strconv_Itoa_small (i:Nat) (hi:i < 100) (w:World) :
 Calls Tryz.prog 175 #[.int .i64 i] w fun e w'=>e=.returned (.string ⟨(Lib.decDigits i).toArray⟩)∧w'=w:=Any.strconv_Itoa_small Tryz.lays171 i hi w
def Tryz.laysM316_ren:Go.Shelf.Ren:=⟨fun | 316=>172 | n=>n,fun | 9=>9 | 3=>3 | 4=>4 | 37=>217 | 0=>0 | 127=>252 | 5=>5 | n=>n,fun | n=>n⟩
theorem Tryz.laysM316:Go.Proofs.LaysM.n316 Tryz.prog Tryz.laysM316_ren:={
 mixed:=by kernel_rfl
 f316:=Tryz.func172.trans (congrArg some (by kernel_rfl))
 t0:=Tryz.underlying0
 a0:=Tryz.isAgg0
 z0:=Tryz.sizeOf0
 v0:=Tryz.zeroValue0
 t3:=Tryz.underlying3
 a3:=Tryz.isAgg3
 z3:=Tryz.sizeOf3
 v3:=Tryz.zeroValue3
 t4:=Tryz.underlying4
 a4:=Tryz.isAgg4
 z4:=Tryz.sizeOf4
 v4:=Tryz.zeroValue4
 t9:=Tryz.underlying9
 a9:=Tryz.isAgg9
 z9:=Tryz.sizeOf9
 v9:=Tryz.zeroValue9
 t37:=Tryz.underlying217
 a37:=Tryz.isAgg217
 z37:=Tryz.sizeOf217
 v37:=Tryz.zeroValue217
 t127:=Tryz.underlying252
 a127:=Tryz.isAgg252
 z127:=Tryz.sizeOf252
 v127:=Tryz.zeroValue252
 t5:=Tryz.underlying5
 a5:=Tryz.isAgg5
 z5:=Tryz.sizeOf5
 v5:=Tryz.zeroValue5
 i0:=by kernel_rfl
 i3:=by kernel_rfl
 i4:=by kernel_rfl
 i5:=by kernel_rfl
 i9:=by kernel_rfl
 i37:=by kernel_rfl
 i127:=by kernel_rfl }
open Go.RowKit in
theorem Tryz.stringslite_Clone (s:ByteArray) (w:World) (hlim:s.size≤281474976710656) :
 Calls Tryz.prog 172 #[.string s] w fun e w'=>e=.returned (.string s)∧Below w.heap.size w w':=Any.stringslite_Clone Tryz.laysM316 s w hlim
def Tryz.lays260_ren:Go.Shelf.Ren:=⟨fun | 260=>200 | n=>n,fun | 9=>9 | 21=>21 | 3=>3 | 4=>4 | 5=>5 | 119=>268 | 0=>0 | 46=>266 | 139=>271 | 138=>270 | n=>n,fun | 3=>1 | 4=>2 | n=>n⟩
theorem Tryz.lays260:Go.Proofs.Lays.n260 Tryz.prog Tryz.lays260_ren:={
 mixed:=by kernel_rfl
 f260:=Tryz.func200.trans (congrArg some (by kernel_rfl))
 t0:=Tryz.underlying0
 a0:=Tryz.isAgg0
 z0:=Tryz.sizeOf0
 v0:=Tryz.zeroValue0
 t3:=Tryz.underlying3
 a3:=Tryz.isAgg3
 z3:=Tryz.sizeOf3
 v3:=Tryz.zeroValue3
 t4:=Tryz.underlying4
 a4:=Tryz.isAgg4
 z4:=Tryz.sizeOf4
 v4:=Tryz.zeroValue4
 t5:=Tryz.underlying5
 a5:=Tryz.isAgg5
 z5:=Tryz.sizeOf5
 v5:=Tryz.zeroValue5
 t9:=Tryz.underlying9
 a9:=Tryz.isAgg9
 z9:=Tryz.sizeOf9
 v9:=Tryz.zeroValue9
 t21:=Tryz.underlying21
 a21:=Tryz.isAgg21
 z21:=Tryz.sizeOf21
 v21:=Tryz.zeroValue21
 t46:=Tryz.underlying266
 a46:=Tryz.isAgg266
 z46:=Tryz.sizeOf266
 v46:=Tryz.zeroValue266
 t119:=Tryz.underlying268
 a119:=Tryz.isAgg268
 z119:=Tryz.sizeOf268
 t138:=Tryz.underlying270
 a138:=Tryz.isAgg270
 z138:=Tryz.sizeOf270
 v138:=Tryz.zeroValue270
 t139:=Tryz.underlying271
 a139:=Tryz.isAgg271
 z139:=Tryz.sizeOf271
 v139:=Tryz.zeroValue271
 g3:=by kernel_rfl
 g4:=by kernel_rfl }
def Tryz.lays197_ren:Go.Shelf.Ren:=⟨fun | 197=>191 | 260=>200 | n=>n,fun | 9=>9 | 21=>21 | 3=>3 | 4=>4 | 5=>5 | 105=>261 | 119=>268 | 0=>0 | 46=>266 | 139=>271 | 138=>270 | n=>n,fun | 3=>1 | 4=>2 | n=>n⟩
theorem Tryz.lays197:Go.Proofs.Lays.n197 Tryz.prog Tryz.lays197_ren:={
 mixed:=by kernel_rfl
 f197:=Tryz.func191.trans (congrArg some (by kernel_rfl))
 f260:=Tryz.func200.trans (congrArg some (by kernel_rfl))
 t0:=Tryz.underlying0
 a0:=Tryz.isAgg0
 z0:=Tryz.sizeOf0
 v0:=Tryz.zeroValue0
 t3:=Tryz.underlying3
 a3:=Tryz.isAgg3
 z3:=Tryz.sizeOf3
 v3:=Tryz.zeroValue3
 t4:=Tryz.underlying4
 a4:=Tryz.isAgg4
 z4:=Tryz.sizeOf4
 v4:=Tryz.zeroValue4
 t5:=Tryz.underlying5
 a5:=Tryz.isAgg5
 z5:=Tryz.sizeOf5
 v5:=Tryz.zeroValue5
 t9:=Tryz.underlying9
 a9:=Tryz.isAgg9
 z9:=Tryz.sizeOf9
 v9:=Tryz.zeroValue9
 t21:=Tryz.underlying21
 a21:=Tryz.isAgg21
 z21:=Tryz.sizeOf21
 v21:=Tryz.zeroValue21
 t46:=Tryz.underlying266
 a46:=Tryz.isAgg266
 z46:=Tryz.sizeOf266
 v46:=Tryz.zeroValue266
 t105:=Tryz.underlying261
 a105:=Tryz.isAgg261
 z105:=Tryz.sizeOf261
 v105:=Tryz.zeroValue261
 t119:=Tryz.underlying268
 a119:=Tryz.isAgg268
 z119:=Tryz.sizeOf268
 t138:=Tryz.underlying270
 a138:=Tryz.isAgg270
 z138:=Tryz.sizeOf270
 v138:=Tryz.zeroValue270
 t139:=Tryz.underlying271
 a139:=Tryz.isAgg271
 z139:=Tryz.sizeOf271
 v139:=Tryz.zeroValue271
 g3:=by kernel_rfl
 g4:=by kernel_rfl }
open Go.RowKit Go.Lib in
theorem Tryz.utf8_DecodeRuneInString (s:ByteArray) (w:World) (hT:Lib.Utf8Tabs 1 2 w) :
 Calls Tryz.prog 191 #[.string s] w fun e w'=>e=.returned (.tuple #[.int .i32 (Lib.decodeGo s).1,.int .i64 (Lib.decodeGo s).2])∧Below w.heap.size w w':=Any.utf8_DecodeRuneInString Tryz.lays197 s w hT
def Tryz.lays108_ren:Go.Shelf.Ren:=⟨fun | 108=>155 | n=>n,fun | 28=>24 | 3=>3 | 0=>0 | 4=>4 | n=>n,fun | n=>n⟩
theorem Tryz.lays108:Go.Proofs.Lays.n108 Tryz.prog Tryz.lays108_ren:={
 mixed:=by kernel_rfl
 f108:=Tryz.func155.trans (congrArg some (by kernel_rfl))
 t0:=Tryz.underlying0
 a0:=Tryz.isAgg0
 z0:=Tryz.sizeOf0
 v0:=Tryz.zeroValue0
 t3:=Tryz.underlying3
 a3:=Tryz.isAgg3
 z3:=Tryz.sizeOf3
 v3:=Tryz.zeroValue3
 t4:=Tryz.underlying4
 a4:=Tryz.isAgg4
 z4:=Tryz.sizeOf4
 v4:=Tryz.zeroValue4
 t28:=Tryz.underlying24
 a28:=Tryz.isAgg24
 z28:=Tryz.sizeOf24
 v28:=Tryz.zeroValue24 }
open Go.Lib in
theorem Tryz.slices_Index_int (b off n c:Nat) (zs:List Int) (x:Int) (w:World) (hz:n≤zs.length) (hbig:n≤9223372036854775807) (hc:∀ j,j < zs.length→w.cell? ⟨b,off+j,none⟩=some (.int .i64 (zs.getD j 0))) :
 Calls Tryz.prog 155 #[.slice (some ⟨b,off,none⟩) n c,.int .i64 x] w fun e w'=>e=.returned (.int .i64 (Lib.idxOf (zs.take n) x))∧w'=w:=Any.slices_Index_int Tryz.lays108 b off n c zs x w hz hbig hc
def Tryz.lays107_ren:Go.Shelf.Ren:=⟨fun | 107=>179 | 108=>155 | n=>n,fun | 28=>24 | 3=>3 | 4=>4 | 0=>0 | n=>n,fun | n=>n⟩
theorem Tryz.lays107:Go.Proofs.Lays.n107 Tryz.prog Tryz.lays107_ren:={
 mixed:=by kernel_rfl
 f107:=Tryz.func179.trans (congrArg some (by kernel_rfl))
 f108:=Tryz.func155.trans (congrArg some (by kernel_rfl))
 t0:=Tryz.underlying0
 a0:=Tryz.isAgg0
 z0:=Tryz.sizeOf0
 v0:=Tryz.zeroValue0
 t3:=Tryz.underlying3
 a3:=Tryz.isAgg3
 z3:=Tryz.sizeOf3
 v3:=Tryz.zeroValue3
 t4:=Tryz.underlying4
 a4:=Tryz.isAgg4
 z4:=Tryz.sizeOf4
 v4:=Tryz.zeroValue4
 t28:=Tryz.underlying24
 a28:=Tryz.isAgg24
 z28:=Tryz.sizeOf24
 v28:=Tryz.zeroValue24 }
open Go.Lib in
theorem Tryz.slices_Contains_int (b off n c:Nat) (zs:List Int) (x:Int) (w:World) (hz:n≤zs.length) (hbig:n≤9223372036854775807) (hc:∀ j,j < zs.length→w.cell? ⟨b,off+j,none⟩=some (.int .i64 (zs.getD j 0))) :
 Calls Tryz.prog 179 #[.slice (some ⟨b,off,none⟩) n c,.int .i64 x] w fun e w'=>e=.returned (.bool ((zs.take n).contains x))∧w'=w:=Any.slices_Contains_int Tryz.lays107 b off n c zs x w hz hbig hc
def Tryz.lays112_ren:Go.Shelf.Ren:=⟨fun | 112=>181 | n=>n,fun | 28=>24 | 3=>3 | 4=>4 | 0=>0 | n=>n,fun | n=>n⟩
theorem Tryz.lays112:Go.Proofs.Lays.n112 Tryz.prog Tryz.lays112_ren:={
 mixed:=by kernel_rfl
 f112:=Tryz.func181.trans (congrArg some (by kernel_rfl))
 t0:=Tryz.underlying0
 a0:=Tryz.isAgg0
 z0:=Tryz.sizeOf0
 v0:=Tryz.zeroValue0
 t3:=Tryz.underlying3
 a3:=Tryz.isAgg3
 z3:=Tryz.sizeOf3
 v3:=Tryz.zeroValue3
 t4:=Tryz.underlying4
 a4:=Tryz.isAgg4
 z4:=Tryz.sizeOf4
 v4:=Tryz.zeroValue4
 t28:=Tryz.underlying24
 a28:=Tryz.isAgg24
 z28:=Tryz.sizeOf24
 v28:=Tryz.zeroValue24 }
def Tryz.laysNm223_ren:Go.Shelf.Ren:=⟨fun | 23=>150 | n=>n,fun | 22=>24 | 3=>3 | 4=>4 | 0=>0 | n=>n,fun | n=>n⟩
theorem Tryz.laysNm223:Go.Proofs.Lays2.n23 Tryz.prog Tryz.laysNm223_ren:={
 mixed:=by kernel_rfl
 f23:=Tryz.func150.trans (congrArg some (by kernel_rfl))
 t0:=Tryz.underlying0
 a0:=Tryz.isAgg0
 z0:=Tryz.sizeOf0
 v0:=Tryz.zeroValue0
 t3:=Tryz.underlying3
 a3:=Tryz.isAgg3
 z3:=Tryz.sizeOf3
 v3:=Tryz.zeroValue3
 t4:=Tryz.underlying4
 a4:=Tryz.isAgg4
 z4:=Tryz.sizeOf4
 v4:=Tryz.zeroValue4
 t22:=Tryz.underlying24
 a22:=Tryz.isAgg24
 z22:=Tryz.sizeOf24
 v22:=Tryz.zeroValue24
 i3:=by kernel_rfl }
open Go.RowKit Go.Lib Go.Sort in
theorem Tryz.slices_Reverse_int_cells (b off n c:Nat) (zs:List Int) (w:World) (hz:n≤zs.length) (hbig:n≤9223372036854775807) (hc:∀ j,j < zs.length→w.cell? ⟨b,off+j,none⟩=some (.int .i64 (zs.getD j 0))) (hf:∀ j,j < n→w.frozen? ⟨b,off+j,none⟩=false) :
 Calls Tryz.prog 181 #[.slice (some ⟨b,off,none⟩) n c] w fun e w'=>e=.returned (.tuple #[])∧∃ q,w'=(w.drewN q).setCells b off ((zs.take n).reverse.map (Value.int .i64)):=Any.slices_Reverse_int_cells Tryz.lays112 b off n c zs w hz hbig hc hf
open Go.RowKit Go.Lib Go.Sort in
theorem Tryz.slices_Delete_int_cells (b off n c i j:Nat) (zs:List Int) (w:World) (hz:n≤zs.length) (hcap:n≤c) (hm:c≤9223372036854775807) (hij:i≤j) (hj:j≤n) (hc:∀ j,j < zs.length→w.cell? ⟨b,off+j,none⟩=some (.int .i64 (zs.getD j 0))) (hf:∀ j,j < n→w.frozen? ⟨b,off+j,none⟩=false) :
 Calls Tryz.prog 150 #[.slice (some ⟨b,off,none⟩) n c,.int .i64 i,.int .i64 j] w fun e w'=>e=.returned (.slice (some ⟨b,off,none⟩) (n - (j - i)) c)∧∃ q,w'=(w.drewN q).setCells b off (((zs.take n).take i++(zs.take n).drop j++List.replicate (j - i) 0).map (Value.int .i64)):=Any.slices_Delete_int_cells Tryz.laysNm223 b off n c i j zs w hz hcap hm hij hj hc hf
end Go.Proofs
namespace Go.Proofs.YtabogkonklplcaaGreatDoor
set_option linter.unusedSimpArgs false
set_option linter.unusedVariables false
set_option maxRecDepth 20000
set_option maxHeartbeats 8000000
section
open Go.RowKit
theorem all_kid {s:List Nd} (wf:WF s) {h:Nat→Nat} {B:Nat} (u:Up s h B):∀ (k e p d:Nat),h e < k→p∈allF s k e→d∈ZD s p→d∈allF s k e:=by
 intro k
 induction k with
 | zero=>intro e p d he;omega
 | succ k ih =>
   intro e p d he hp hd
   simp only[allF,List.mem_cons,List.mem_flatMap] at hp ⊢
   rcases hp with rfl|⟨c,hc,hp⟩
   · obtain⟨x,hx,hdx⟩:=Y8 hd
     have hh:=(wf.kid_lt u hx hdx).2
     refine .inr ⟨d,hd,?_⟩
     obtain⟨k',rfl⟩:∃ k',k=k'+1:=⟨k - 1,by omega⟩
     simp[allF]
   · obtain⟨x,hx,hcx⟩:=Y8 hc
     have hh:=(wf.kid_lt u hx hcx).2
     exact .inr ⟨c,hc,ih c p d (by omega) hp hd⟩
theorem Zct {s:List Nd} (wf:WF s) {h:Nat→Nat} {B:Nat} (u:Up s h B) (k e:Nat) (he:h e < k):∀ (m d:Nat),d < s.length→climb s m d=(e:Int)→d∈allF s k e:=by
 intro m
 induction m with
 | zero =>
   intro d hd hc
   have:d=e:=by simp[climb] at hc;omega
   subst this
   obtain⟨k',rfl⟩:∃ k',k=k'+1:=⟨k - 1,by omega⟩
   simp[allF]
 | succ m ih =>
   intro d hd hc
   have hx:s[d]?=some s[d]:=List.getElem?_eq_getElem hd
   generalize s[d]=x at hx
   have e1:climb s 1 d=x.p:=by rw[Ya (j:=0) (e:=d) rfl];simp[Zw,hx]
   rcases wf.par d x hx with hp|⟨i,y,hp,hy,hdy⟩
   · exfalso
     have hneg:∀ k,climb s (k+1) d<0:=by
      intro k
      induction k with
      | zero=>rw[show (0+1)=1 from rfl,e1];omega
      | succ k ih2=>simp[climb] at ih2 ⊢;omega
     have:=hneg m
     omega
   · rw[hp] at e1
     have e2:=YG e1 m
     rw[Nat.add_comm 1 m,hc] at e2
     exact all_kid wf u k e i d he (ih i (List.getElem?_eq_some_iff.1 hy).1 e2.symm) (by rw[Yp hy];exact hdy)
theorem Zi9 {s:List Nd} (wf:WF s) {h:Nat→Nat} {B:Nat} (u:Up s h B) (o:Nat):∀ (N i:Nat),B+1 - h i≤N→i < s.length→(∃ m,climb s m i=(o:Int))∨Lim (fun c=>ZT s c (i:Int) (o:Int)) false:=by
 intro N
 induction N with
 | zero=>intro i hi;have:=u.le i;omega
 | succ N ih =>
   intro i hi hl
   by_cases hio:i=o
   · exact .inl ⟨0,by simp[climb,hio]⟩
   · have hx:s[i]?=some s[i]:=List.getElem?_eq_getElem hl
     generalize s[i]=x at hx
     have e1:climb s 1 i=x.p:=by rw[Ya (j:=0) (e:=i) rfl];simp[Zw,hx]
     rcases wf.par i x hx with hp|⟨q,y,hp,hy,hdy⟩
     · exact .inr (Zba s i x o hx (by omega) (by rw[hp];exact ZeQ s _ _ (by omega)))
     · have hh:=(u.par i x hx (by omega)).2
       rw[hp] at hh e1
       simp at hh
       have hb:=u.le q
       have hc:=u.le i
       rcases ih q (by omega) (List.getElem?_eq_some_iff.1 hy).1 with ⟨m,hm⟩|hf
       · exact .inl ⟨1+m,by rw[YG e1 m];exact hm⟩
       · exact .inr (Zba s i x o hx (by omega) (by rw[hp];exact hf))
theorem Zay {s:List Nd} (wf:WF s) {k n d:Nat} (hd:d < s.length) (hm:d∈allF s k n):Lim (fun c=>ZT s c (d:Int) (n:Int)) true:=by
 obtain⟨h,B,u⟩:=wf.up
 obtain⟨j,hj⟩:=XH wf k n d hm
 exact Zcj u j d n hd hj
theorem JV {s:List Nd} (wf:WF s) {h:Nat→Nat} {B:Nat} (u:Up s h B) {k n d:Nat} (hd:d < s.length) (hk:h n < k) (hm:d∉allF s k n):Lim (fun c=>ZT s c (d:Int) (n:Int)) false:=by
 rcases Zi9 wf u n _ d (Nat.le_refl _) hd with ⟨m,hc⟩|hf
 · exact absurd (Zct wf u k n hk m d hd hc) hm
 · exact hf
end
end Go.Proofs.YtabogkonklplcaaGreatDoor
