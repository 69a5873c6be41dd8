import Derived.Test.YtabogkonklplcaaGreatDoorH05
import Derived.Shelf.Strings.Builder1
import Derived.Shelf.Strings.Builder2
import Derived.Shelf.Strings.OnBuilder
import Derived.Shelf.Small.Wraps
import Derived.Shelf.Strings.BuilderF
import Derived.Shelf.Strings.BuilderK
import Derived.Shelf.Strings.BuilderRune
import Derived.Shelf.Utf8.AppendRune
import Derived.Shelf.Utf8.AppendRunePlain
import Derived.Shelf.Strings.Builder2Cap
import Derived.Shelf.Strconv.Itoa0
import Derived.Shelf.Strconv.Itoa1
import Derived.Shelf.LaysM
import Derived.Shelf.Strconv.Itoa2
import Derived.Shelf.Strconv.Itoa3
import Derived.Shelf.Strconv.Clone
import Derived.Shelf.Unicode.DecodeSlow
import Derived.Shelf.Unicode.DecodeAny
import Derived.Shelf.Strings.BuilderCap
import Derived.Shelf.Slices.Turned
import Derived.Shelf.Slices.Reverse
import Derived.Ground.Names2Prog
import Derived.Shelf.Slices.SearchI
import Derived.Shelf.Slices.Delete
import Derived.Shelf.Slices.Cells
import Derived.Shelf.Slices.Empties
import Derived.Test.YtabogkonklplcaaGreatDoorProg
import Derived.Test.YtabogkonklplcaaGreatDoorH06
import Derived.Test.YtabogkonklplcaaGreatDoorH08
import Derived.Shelf.Abstract
import Derived.Shelf.RegionOpen
import Derived.OwnWalkIn
import Derived.TacticsInMore
import Derived.LoopNIn
import Derived.LoopIn
namespace Go.Proofs.YtabogkonklplcaaGreatDoor
set_option linter.unusedSimpArgs false
set_option linter.unusedVariables false
set_option maxRecDepth 20000
set_option maxHeartbeats 8000000
section
open Go.RowKit
structure PN where
 p:Int
 t:Bool
 kv:Value
 ch:ByteArray
def PN.cells (r:PN):List Value:=[.int .i64 r.p,.bool r.t,r.kv,.string r.ch]
theorem Zg1 (rn:List PN) (i:Nat) (r:PN) (h:rn[i]?=some r) (j:Nat) (hj:j < 4):(rn.flatMap PN.cells)[i * 4+j]?=r.cells[j]?:=by
 induction rn generalizing i with
 | nil=>simp at h
 | cons a l ih =>
   cases i with
   | zero =>
     simp at h;subst h
     rw[List.flatMap_cons,Nat.zero_mul,Nat.zero_add,List.getElem?_append_left (by simpa[PN.cells] using hj)]
   | succ i =>
     have e:(i+1)*4+j=(i*4+j)+4:=by omega
     rw[e,List.flatMap_cons,List.getElem?_append_right (by simp[PN.cells])]
     simpa[PN.cells] using ih i (by simpa using h)
theorem ZdP (rn:List PN) (i:Nat) (r r':PN) (h:rn[i]?=some r) (j:Nat) (hj:j < 4) (u:Value) (he:r'.cells=r.cells.set j u) :
 (rn.flatMap PN.cells).set (i*4+j) u=(rn.set i r').flatMap PN.cells:=by
 induction rn generalizing i with
 | nil=>simp at h
 | cons a l ih =>
   cases i with
   | zero =>
     simp at h;subst h
     simp only[List.flatMap_cons,List.set_cons_zero,Nat.zero_mul,Nat.zero_add]
     rw[List.set_append_left _ _ (by simpa[PN.cells] using hj),← he]
   | succ i =>
     have e:(i+1)*4+j=(i*4+j)+4:=by omega
     simp only[List.flatMap_cons,List.set_cons_succ]
     rw[e,List.set_append_right _ _ (by simp[PN.cells])]
     congr 1
     simpa[PN.cells] using ih i (by simpa using h)
def catB (l:List ByteArray):ByteArray:=l.foldl (·++·) ⟨#[]⟩
structure POk (w:World) (F:Nat→Prop) (bf bn:Nat) (r:PN) (x:Nd):Prop where
 t:r.t=x.t
 p:r.p=x.p
 ch:r.ch=catB x.cs
 kids:w.ownsRow 0 3 1 r.kv x.ks.length (Zg x.ks)
 apart:∀ b,r.kv.ownBlock=some b→F b∧b≠bf∧b≠bn
structure Zh (w:World) (F:Nat→Prop) (bf bn cap:Nat) (pn:List PN) (s:List Nd):Prop where
 forest:w.heap[bf]?=some (.cells #[.slice (some ⟨bn,0,none⟩) pn.length cap] 167 (0,0))
 nodes:w.ownsRow 0 164 4 (.slice (some ⟨bn,0,none⟩) pn.length cap) pn.length (pn.flatMap PN.cells)
 Ff:F bf
 Fn:F bn
 ne:bf≠bn
 len:pn.length=s.length
 ok:∀ (i:Nat) (r:PN) (x:Nd),pn[i]?=some r→s[i]?=some x→POk w F bf bn r x
 sep:∀ (i j:Nat) (r r':PN),i≠j→pn[i]?=some r→pn[j]?=some r'→∀ b,r.kv.ownBlock=some b→r'.kv.ownBlock≠some b
def PFor (w:World) (F:Nat→Prop) (bf:Nat) (s:List Nd):Prop:=∃ bn cap pn,Zh w F bf bn cap pn s
section
variable {w:World} {F:Nat→Prop} {bf bn cap:Nat} {pn:List PN} {s:List Nd}
theorem Zh.nodesCell (h:Zh w F bf bn cap pn s):w.cell? ⟨bf,0,none⟩=some (.slice (some ⟨bn,0,none⟩) s.length cap):=by
 rw[Za h.forest,← h.len];rfl
theorem Zh.lt (h:Zh w F bf bn cap pn s):bf < w.heap.size∧bn < w.heap.size:=⟨Zc h.forest,(h.nodes.lt bn rfl).2⟩
theorem Zh.raw (h:Zh w F bf bn cap pn s) {i:Nat} {x:Nd} (hx:s[i]?=some x):∃ r,pn[i]?=some r∧POk w F bf bn r x:=by
 have hi:i<pn.length:=by rw[h.len];exact(List.getElem?_eq_some_iff.1 hx).1
 exact⟨pn[i],List.getElem?_eq_getElem hi,h.ok i _ x (List.getElem?_eq_getElem hi) hx⟩
theorem Zh.cellAt (h:Zh w F bf bn cap pn s) {i:Nat} {r:PN} (hr:pn[i]?=some r) (j:Nat) (hj:j < 4):w.cell? ⟨bn,i * 4+j,none⟩=r.cells[j]?:=by
 have hi:=(List.getElem?_eq_some_iff.1 hr).1
 rw[h.nodes.cellAt (i*4+j) (by omega),Zg1 pn i r hr j hj]
theorem Zh.look (h:Zh w F bf bn cap pn s) {i:Nat} {x:Nd} (hx:s[i]?=some x):∃ r,pn[i]?=some r∧POk w F bf bn r x ∧
 w.cell? ⟨bn,i*4,none⟩=some (.int .i64 x.p)∧w.cell? ⟨bn,i*4+1,none⟩=some (.bool x.t)∧w.cell? ⟨bn,i*4+2,none⟩=some r.kv∧w.cell? ⟨bn,i*4+3,none⟩=some (.string (catB x.cs)):=by
 obtain⟨r,hr,ho⟩:=h.raw hx
 have h0:=h.cellAt hr 0 (by omega)
 have h1:=h.cellAt hr 1 (by omega)
 have h2:=h.cellAt hr 2 (by omega)
 have h3:=h.cellAt hr 3 (by omega)
 refine⟨r,hr,ho,?_,?_,?_,?_⟩
 · simpa[PN.cells,ho.p] using h0
 · simpa[PN.cells,ho.t] using h1
 · simpa[PN.cells] using h2
 · simpa[PN.cells,ho.ch] using h3
theorem POk.keeps {G:Nat→Prop} {w':World} {r:PN} {x:Nd} (o:POk w F bf bn r x) (hk:Zb G w w') (hG:∀ b,r.kv.ownBlock=some b→¬ G b):POk w' F bf bn r x :=
 ⟨o.t,o.p,o.ch,hk.row o.kids hG,o.apart⟩
theorem Zh.keeps {G:Nat→Prop} {w':World} (h:Zh w F bf bn cap pn s) (hk:Zb G w w') (hG:∀ b,F b→¬ G b):Zh w' F bf bn cap pn s where
 forest:=by rw[hk.block bf (Zc h.forest) (hG _ h.Ff)];exact h.forest
 nodes:=hk.row h.nodes (fun b e=>by cases e;exact hG _ h.Fn)
 Ff:=h.Ff
 Fn:=h.Fn
 ne:=h.ne
 len:=h.len
 ok:=fun i r x hr hx=>(h.ok i r x hr hx).keeps hk (fun b e=>hG _ ((h.ok i r x hr hx).apart b e).1)
 sep:=h.sep
theorem Zh.below {w':World} (h:Zh w F bf bn cap pn s) (hk:Below w.heap.size w w'):Zh w' F bf bn cap pn s :=
 h.keeps (Zb.of_below (F:=fun _=>False) hk) (fun _ _ e=>e)
theorem Zh.wider {G:Nat→Prop} (h:Zh w F bf bn cap pn s) (hG:∀ b,F b→G b):Zh w G bf bn cap pn s where
 forest:=h.forest
 nodes:=h.nodes
 Ff:=hG _ h.Ff
 Fn:=hG _ h.Fn
 ne:=h.ne
 len:=h.len
 ok:=fun i r x hr hx =>
  have o:=h.ok i r x hr hx
  ⟨o.t,o.p,o.ch,o.kids,fun b e=>⟨hG _ (o.apart b e).1,(o.apart b e).2⟩⟩
 sep:=h.sep
theorem Zh.narrow (h:Zh w F bf bn cap pn s):Zh w (fun b=>F b∧b < w.heap.size) bf bn cap pn s where
 forest:=h.forest
 nodes:=h.nodes
 Ff:=⟨h.Ff,h.lt.1⟩
 Fn:=⟨h.Fn,h.lt.2⟩
 ne:=h.ne
 len:=h.len
 ok:=fun i r x hr hx =>
  have o:=h.ok i r x hr hx
  ⟨o.t,o.p,o.ch,o.kids,fun b e=>⟨⟨(o.apart b e).1,(o.kids.lt b e).2⟩,(o.apart b e).2⟩⟩
 sep:=h.sep
theorem Zh.drewN (h:Zh w F bf bn cap pn s) (n:Nat):Zh (w.drewN n) F bf bn cap pn s :=
 h.keeps (G:=fun _=>False) ⟨rfl,rfl,rfl,Nat.le_refl _,fun _ _ _=>rfl⟩ (fun _ _ e=>e)
theorem Zh.drew (h:Zh w F bf bn cap pn s):Zh w.drew F bf bn cap pn s:=h.drewN 1
theorem Zh.pushed (h:Zh w F bf bn cap pn s) {w1:World} {g cap' B:Nat} {r:PN} {x:Nd} (hB:B≤w.heap.size) (hg:w.grownBy w1 (some bn))
 (ho:w1.ownsRow 0 164 4 (.slice (some ⟨g,0,none⟩) (pn.length+1) cap') (pn.length+1) (pn.flatMap PN.cells++r.cells)) (hgn:g=bn∨g=w.heap.size)
 (hn:r.kv=.slice none 0 0∧r.t=x.t∧r.p=x.p∧r.ch=catB x.cs∧x.ks=[]) :
 Zh (w1.setCell ⟨bf,0,none⟩ (.slice (some ⟨g,0,none⟩) (pn.length+1) cap')) (fun b=>F b∨B≤b) bf g cap' (pn++[r]) (s++[x]):=by
 have hlt:=h.lt
 have hgd:bf≠g:=by
  rcases hgn with e|e
  · rw[e];exact h.ne
  · omega
 have hk1:Zb (fun b=>b=bn) w w1:=Zb.grown hg (fun k e=>by cases e;exact .inl rfl)
 have hk:Zb (fun b=>b=bn∨b=bf) w (w1.setCell ⟨bf,0,none⟩ (.slice (some ⟨g,0,none⟩) (pn.length+1) cap')) :=
  (hk1.mono (fun k _ e=>.inl e)).setCell (p:=⟨bf,0,none⟩) (.inl (.inr rfl)) _
 have far:∀ b,b<w.heap.size→b≠bn→b≠g:=fun b hb hbn=>by
  rcases hgn with e|e
  · rw[e];exact hbn
  · omega
 refine⟨?_,?_,.inl h.Ff,?_,hgd,by simp[h.len],?_,?_⟩
 · have e1:w1.heap[bf]?=_:=(hk1.block bf hlt.1 h.ne).trans h.forest
   rw[heap_setCell_same w1 bf 0 _ _ _ e1]
   simp
 · rw[List.length_append,List.flatMap_append]
   simpa using XV ho (p:=⟨bf,0,none⟩) (by simp[Value.ownBlock];exact fun e=>hgd e.symm) _
 · rcases hgn with e|e
   · rw[e];exact .inl h.Fn
   · exact .inr (by omega)
 · intro i r1 x1 h1 h2
   by_cases hi:i<pn.length
   · rw[List.getElem?_append_left hi] at h1
     rw[List.getElem?_append_left (by rw[← h.len];exact hi)] at h2
     have o:=h.ok i r1 x1 h1 h2
     refine⟨o.t,o.p,o.ch,hk.row o.kids (fun b e e2=>?_),fun b e=>⟨.inl (o.apart b e).1,(o.apart b e).2.1,far b (o.kids.lt b e).2 (o.apart b e).2.2⟩⟩
     rcases e2 with e2|e2
     · exact(o.apart b e).2.2 e2
     · exact(o.apart b e).2.1 e2
   · have hi1:=(List.getElem?_eq_some_iff.1 h1).1
     simp at hi1
     have ei:i=pn.length:=by omega
     subst ei
     rw[List.getElem?_append_right (Nat.le_refl _)] at h1
     rw[List.getElem?_append_right (by rw[← h.len];exact Nat.le_refl _)] at h2
     simp at h1
     simp[h.len] at h2
     subst h1
     subst h2
     obtain⟨e1,e2,e3,e4,e5⟩:=hn
     refine⟨e2,e3,e4,?_,?_⟩
     · rw[e1,e5];exact World.ownsRow_nil _ _ _ _
     · rw[e1];intro b e;cases e
 · intro i j r1 r2 hij h1 h2 b e
   have hnil:r.kv.ownBlock=none:=by rw[hn.1];rfl
   by_cases hi:i<pn.length
   · rw[List.getElem?_append_left hi] at h1
     by_cases hj:j<pn.length
     · rw[List.getElem?_append_left hj] at h2
       exact h.sep i j r1 r2 hij h1 h2 b e
     · rw[List.getElem?_append_right (by omega)] at h2
       have hj1:=(List.getElem?_eq_some_iff.1 h2).1
       simp at hj1
       have:j - pn.length=0:=by omega
       rw[this] at h2
       simp at h2
       subst h2
       rw[hnil];simp
   · rw[List.getElem?_append_right (by omega)] at h1
     have hj1:=(List.getElem?_eq_some_iff.1 h1).1
     simp at hj1
     have:i - pn.length=0:=by omega
     rw[this] at h1
     simp at h1
     subst h1
     rw[hnil] at e;cases e
theorem Zh.setNode (h:Zh w F bf bn cap pn s) {i:Nat} {r r':PN} {x x':Nd} (hr:pn[i]?=some r) (hx:s[i]?=some x) (j:Nat) (hj:j < 4) (u:Value) (he:r'.cells=r.cells.set j u) (ho:POk w F bf bn r' x')
 (hs:∀ (k:Nat) (r1:PN),k≠i→pn[k]?=some r1→∀ b,r'.kv.ownBlock=some b→r1.kv.ownBlock≠some b) :
 Zh (w.setCell ⟨bn,i*4+j,none⟩ u) F bf bn cap (pn.set i r') (s.set i x'):=by
 have hk:Zb (fun b=>b=bn) w (w.setCell ⟨bn,i*4+j,none⟩ u):=(Zb.refl (fun b=>b=bn) w).setCell (p:=⟨bn,i*4+j,none⟩) (.inl rfl) u
 have hi:=(List.getElem?_eq_some_iff.1 hr).1
 have hi':=(List.getElem?_eq_some_iff.1 hx).1
 refine⟨?_,?_,h.Ff,h.Fn,h.ne,by simpa using h.len,?_,?_⟩
 · rw[hk.block bf (Zc h.forest) h.ne,List.length_set];exact h.forest
 · have:=(h.nodes.stored (i*4+j) u).1
   rw[ZdP pn i r r' hr j hj u he] at this
   rw[List.length_set]
   exact this
 · intro k r1 x1 h1 h2
   rw[List.getElem?_set] at h1 h2
   by_cases hik:i=k
   · subst hik
     rw[if_pos rfl,if_pos hi] at h1
     rw[if_pos rfl,if_pos hi'] at h2
     cases h1
     cases h2
     exact ho.keeps hk (fun b e e2=>(ho.apart b e).2.2 e2)
   · rw[if_neg hik] at h1 h2
     have o:=h.ok k r1 x1 h1 h2
     exact o.keeps hk (fun b e e2=>(o.apart b e).2.2 e2)
 · intro a b ra rb hab h1 h2 c e
   rw[List.getElem?_set] at h1 h2
   by_cases ha:i=a
   · subst ha
     rw[if_pos rfl,if_pos hi] at h1
     cases h1
     rw[if_neg hab] at h2
     exact hs b rb (fun e=>hab e.symm) h2 c e
   · rw[if_neg ha] at h1
     by_cases hb:i=b
     · subst hb
       rw[if_pos rfl,if_pos hi] at h2
       cases h2
       intro e2
       exact hs a ra (fun e=>ha e.symm) h1 c e2 e
     · rw[if_neg hb] at h2
       exact h.sep a b ra rb hab h1 h2 c e
theorem Zh.newPar (h:Zh w F bf bn cap pn s) {i:Nat} {x:Nd} (p:Int) (hx:s[i]?=some x) :
 ∃ pn2,Zh (w.setCell ⟨bn,i*4,none⟩ (.int .i64 p)) F bf bn cap pn2 (s.set i { x with p:=p }):=by
 obtain⟨r,hr,ho⟩:=h.raw hx
 exact⟨_,h.setNode (r':={ r with p:=p }) hr hx 0 (by omega) _ rfl ⟨ho.t,rfl,ho.ch,ho.kids,ho.apart⟩ (fun k r1 hk h1 b e=>h.sep i k r r1 (fun e=>hk e.symm) hr h1 b e)⟩
end
end
end Go.Proofs.YtabogkonklplcaaGreatDoor
set_option linter.unusedSimpArgs false
set_option linter.unusedVariables false
set_option maxRecDepth 20000
set_option maxHeartbeats 8000000
namespace Go.Proofs
open Go.Shelf
def Tryz.lays169_ren:Go.Shelf.Ren:=⟨fun | 169=>148 | n=>n,fun | 70=>216 | 9=>9 | 0=>0 | 72=>219 | 37=>217 | 127=>252 | 3=>3 | 5=>5 | n=>n,fun | n=>n⟩
theorem Tryz.lays169:Go.Proofs.Lays.n169 Tryz.prog Tryz.lays169_ren:={
 mixed:=by kernel_rfl
 f169:=Tryz.func148.trans (congrArg some (by kernel_rfl))
 t0:=Tryz.underlying0
 a0:=Tryz.isAgg0
 z0:=Tryz.sizeOf0
 v0:=Tryz.zeroValue0
 t3:=Tryz.underlying3
 a3:=Tryz.isAgg3
 z3:=Tryz.sizeOf3
 v3:=Tryz.zeroValue3
 t9:=Tryz.underlying9
 a9:=Tryz.isAgg9
 z9:=Tryz.sizeOf9
 v9:=Tryz.zeroValue9
 t37:=Tryz.underlying217
 a37:=Tryz.isAgg217
 z37:=Tryz.sizeOf217
 v37:=Tryz.zeroValue217
 t70:=Tryz.underlying216
 a70:=Tryz.isAgg216
 z70:=Tryz.sizeOf216
 v70:=Tryz.zeroValue216
 t72:=Tryz.underlying219
 a72:=Tryz.isAgg219
 z72:=Tryz.sizeOf219
 v72:=Tryz.zeroValue219
 t127:=Tryz.underlying252
 a127:=Tryz.isAgg252
 z127:=Tryz.sizeOf252
 v127:=Tryz.zeroValue252 }
theorem Tryz.Builder_Extra_169:Builder.Extra Tryz.prog Tryz.lays169_ren:={
 sizeBuilder:=by kernel_rfl
 liesBuilder:=by kernel_rfl
 t5:=Tryz.underlying5
 a5:=Tryz.isAgg5
 z5:=Tryz.sizeOf5
 v5:=Tryz.zeroValue5
 infoByte:=by kernel_rfl
 cellsByte:=by kernel_rfl
 sizeByte:=by kernel_rfl
 neB5:=by decide }
open Go.RowKit in
theorem Tryz.Builder_String_any (B b:Nat) (l:List UInt8) (w:World) (h:Lib.IsBuilder 219 5 B b (Lib.byteCells l) w) (hBw:B≤w.heap.size) :
 Calls Tryz.prog 148 #[.pointer (some ⟨b,0,none⟩)] w fun e w'=>e=.returned (.string ⟨l.toArray⟩)∧Below B w w':=Any.Builder_String_any Tryz.lays169 Tryz.Builder_Extra_169 B b l w h hBw
def Tryz.lays156_ren:Go.Shelf.Ren:=⟨fun | 156=>161 | 165=>186 | 166=>174 | 169=>148 | 240=>184 | 241=>197 | 276=>195 | 277=>202 | n=>n,fun | 31=>107 | 9=>9 | 3=>3 | 4=>4 | 0=>0 | 20=>20 | 72=>219 | 76=>62 | 70=>216 | 37=>217 | 75=>29 | 127=>252 | 164=>203 | 5=>5 | 80=>221 | n=>n,fun | n=>n⟩
theorem Tryz.lays156:Go.Proofs.Lays.n156 Tryz.prog Tryz.lays156_ren:={
 mixed:=by kernel_rfl
 f156:=Tryz.func161.trans (congrArg some (by kernel_rfl))
 f165:=Tryz.func186.trans (congrArg some (by kernel_rfl))
 f166:=Tryz.func174.trans (congrArg some (by kernel_rfl))
 f169:=Tryz.func148.trans (congrArg some (by kernel_rfl))
 f240:=Tryz.func184.trans (congrArg some (by kernel_rfl))
 f241:=Tryz.func197.trans (congrArg some (by kernel_rfl))
 f276:=Tryz.func195.trans (congrArg some (by kernel_rfl))
 f277:=Tryz.func202.trans (congrArg some (by kernel_rfl))
 t0:=Tryz.underlying0
 a0:=Tryz.isAgg0
 z0:=Tryz.sizeOf0
 v0:=Tryz.zeroValue0
 t3:=Tryz.underlying3
 a3:=Tryz.isAgg3
 z3:=Tryz.sizeOf3
 v3:=Tryz.zeroValue3
 t4:=Tryz.underlying4
 a4:=Tryz.isAgg4
 z4:=Tryz.sizeOf4
 v4:=Tryz.zeroValue4
 t9:=Tryz.underlying9
 a9:=Tryz.isAgg9
 z9:=Tryz.sizeOf9
 v9:=Tryz.zeroValue9
 t20:=Tryz.underlying20
 a20:=Tryz.isAgg20
 z20:=Tryz.sizeOf20
 v20:=Tryz.zeroValue20
 t31:=Tryz.underlying107
 a31:=Tryz.isAgg107
 z31:=Tryz.sizeOf107
 v31:=Tryz.zeroValue107
 t37:=Tryz.underlying217
 a37:=Tryz.isAgg217
 z37:=Tryz.sizeOf217
 v37:=Tryz.zeroValue217
 t70:=Tryz.underlying216
 a70:=Tryz.isAgg216
 z70:=Tryz.sizeOf216
 v70:=Tryz.zeroValue216
 t72:=Tryz.underlying219
 a72:=Tryz.isAgg219
 z72:=Tryz.sizeOf219
 v72:=Tryz.zeroValue219
 t75:=Tryz.underlying29
 a75:=Tryz.isAgg29
 z75:=Tryz.sizeOf29
 v75:=Tryz.zeroValue29
 t76:=Tryz.underlying62
 a76:=Tryz.isAgg62
 z76:=Tryz.sizeOf62
 v76:=Tryz.zeroValue62
 t127:=Tryz.underlying252
 a127:=Tryz.isAgg252
 z127:=Tryz.sizeOf252
 v127:=Tryz.zeroValue252
 t164:=Tryz.underlying203
 a164:=Tryz.isAgg203
 z164:=Tryz.sizeOf203
 v164:=Tryz.zeroValue203 }
theorem Tryz.Builder_Extra_156:Builder.Extra Tryz.prog Tryz.lays156_ren:={
 sizeBuilder:=by kernel_rfl
 liesBuilder:=by kernel_rfl
 t5:=Tryz.underlying5
 a5:=Tryz.isAgg5
 z5:=Tryz.sizeOf5
 v5:=Tryz.zeroValue5
 infoByte:=by kernel_rfl
 cellsByte:=by kernel_rfl
 sizeByte:=by kernel_rfl
 neB5:=by decide }
open Go.RowKit in
theorem Tryz.strings_Join (bk o c:Nat) (xs:List ByteArray) (sep:ByteArray) (w:World) (hcells:∀ (j:Nat) x,xs[j]?=some x→w.cell? ⟨bk,o+j,none⟩=some (.string x)) (hbk:bk < w.heap.size) (hN:xs.length≤140737488355328) (hcap:xs.length≤c) (hlen:(Lib.join (xs.map (·.data.toList)) sep.data.toList).length≤140737488355328) :
 Calls Tryz.prog 161 #[.slice (some ⟨bk,o,none⟩) xs.length c,.string sep] w fun e w'=>e=.returned (.string ⟨(Lib.join (xs.map (·.data.toList)) sep.data.toList).toArray⟩)∧Below w.heap.size w w':=Any.strings_Join Tryz.lays156 Tryz.Builder_Extra_156 bk o c xs sep w hcells hbk hN hcap hlen
def Tryz.lays122_ren:Go.Shelf.Ren:=⟨fun | 122=>180 | 215=>193 | n=>n,fun | 3=>3 | 4=>4 | n=>n,fun | n=>n⟩
theorem Tryz.lays122:Go.Proofs.Lays.n122 Tryz.prog Tryz.lays122_ren:={
 mixed:=by kernel_rfl
 f122:=Tryz.func180.trans (congrArg some (by kernel_rfl))
 f215:=Tryz.func193.trans (congrArg some (by kernel_rfl))
 t3:=Tryz.underlying3
 a3:=Tryz.isAgg3
 z3:=Tryz.sizeOf3
 v3:=Tryz.zeroValue3
 t4:=Tryz.underlying4
 a4:=Tryz.isAgg4
 z4:=Tryz.sizeOf4
 v4:=Tryz.zeroValue4 }
open Go.RowKit in
theorem Tryz.cmp_Compare_int (x y:Int) (w:World) :
 Calls Tryz.prog 180 #[.int .i64 x,.int .i64 y] w fun e w'=>e=.returned (.int .i64 (Lib.compareInt x y))∧w'=w:=Any.cmp_Compare_int Tryz.lays122 x y w
def Tryz.lays242_ren:Go.Shelf.Ren:=⟨fun | 242=>185 | 278=>196 | n=>n,fun | 37=>217 | 21=>21 | 51=>264 | 4=>4 | 5=>5 | 46=>266 | n=>n,fun | n=>n⟩
theorem Tryz.lays242:Go.Proofs.Lays.n242 Tryz.prog Tryz.lays242_ren:={
 mixed:=by kernel_rfl
 f242:=Tryz.func185.trans (congrArg some (by kernel_rfl))
 f278:=Tryz.func196.trans (congrArg some (by kernel_rfl))
 t4:=Tryz.underlying4
 a4:=Tryz.isAgg4
 z4:=Tryz.sizeOf4
 v4:=Tryz.zeroValue4
 t5:=Tryz.underlying5
 a5:=Tryz.isAgg5
 z5:=Tryz.sizeOf5
 v5:=Tryz.zeroValue5
 t21:=Tryz.underlying21
 a21:=Tryz.isAgg21
 z21:=Tryz.sizeOf21
 v21:=Tryz.zeroValue21
 t37:=Tryz.underlying217
 a37:=Tryz.isAgg217
 z37:=Tryz.sizeOf217
 v37:=Tryz.zeroValue217
 t46:=Tryz.underlying266
 a46:=Tryz.isAgg266
 z46:=Tryz.sizeOf266
 v46:=Tryz.zeroValue266
 t51:=Tryz.underlying264
 a51:=Tryz.isAgg264
 z51:=Tryz.sizeOf264
 v51:=Tryz.zeroValue264 }
open Go.RowKit in
theorem Tryz.utf8_AppendRune_plain (B:Nat) (v:Value) (n:Nat) (xs:List Value) (r:Int) (hr0:-2147483648≤r) (hr1:r≤2147483647) (w:World) (hown:w.ownsRow B 5 1 v n xs) (hlen:n+4≤140737488355328) (hBw:B≤w.heap.size) :
 Calls Tryz.prog 185 #[v,.int .i32 r] w fun e w'=>∃ v',e=.returned v'∧w'.ownsRow B 5 1 v' (n+(Lib.runeCells r).length) (xs++Lib.runeCells r)∧∃ o,(w.alloc o).grownBy w' v.ownBlock:=Any.utf8_AppendRune_plain Tryz.lays242 (by kernel_rfl) B v n xs r hr0 hr1 w hown hlen hBw
def Tryz.lays171_ren:Go.Shelf.Ren:=⟨fun | 171=>175 | 243=>192 | 246=>201 | 283=>203 | 284=>204 | 285=>205 | 286=>206 | 129=>208 | 317=>207 | 318=>209 | 319=>210 | 320=>211 | 337=>212 | 338=>213 | n=>n,fun | 3=>3 | 9=>9 | 2=>2 | 4=>4 | 171=>272 | 0=>0 | 53=>273 | 37=>217 | 5=>5 | 173=>276 | 212=>279 | 51=>264 | 20=>20 | 213=>280 | 46=>266 | 232=>283 | 233=>284 | n=>n,fun | 17=>4 | 18=>5 | 19=>6 | n=>n⟩
theorem Tryz.lays171:Go.Proofs.Lays.n171 Tryz.prog Tryz.lays171_ren:={
 mixed:=by kernel_rfl
 f129:=Tryz.func208.trans (congrArg some (by kernel_rfl))
 f171:=Tryz.func175.trans (congrArg some (by kernel_rfl))
 f243:=Tryz.func192.trans (congrArg some (by kernel_rfl))
 f246:=Tryz.func201.trans (congrArg some (by kernel_rfl))
 f283:=Tryz.func203.trans (congrArg some (by kernel_rfl))
 f284:=Tryz.func204.trans (congrArg some (by kernel_rfl))
 f285:=Tryz.func205.trans (congrArg some (by kernel_rfl))
 f286:=Tryz.func206.trans (congrArg some (by kernel_rfl))
 f317:=Tryz.func207.trans (congrArg some (by kernel_rfl))
 f318:=Tryz.func209.trans (congrArg some (by kernel_rfl))
 f319:=Tryz.func210.trans (congrArg some (by kernel_rfl))
 f320:=Tryz.func211.trans (congrArg some (by kernel_rfl))
 f337:=Tryz.func212.trans (congrArg some (by kernel_rfl))
 f338:=Tryz.func213.trans (congrArg some (by kernel_rfl))
 t0:=Tryz.underlying0
 a0:=Tryz.isAgg0
 z0:=Tryz.sizeOf0
 v0:=Tryz.zeroValue0
 t2:=Tryz.underlying2
 a2:=Tryz.isAgg2
 z2:=Tryz.sizeOf2
 v2:=Tryz.zeroValue2
 t3:=Tryz.underlying3
 a3:=Tryz.isAgg3
 z3:=Tryz.sizeOf3
 v3:=Tryz.zeroValue3
 t4:=Tryz.underlying4
 a4:=Tryz.isAgg4
 z4:=Tryz.sizeOf4
 v4:=Tryz.zeroValue4
 t5:=Tryz.underlying5
 a5:=Tryz.isAgg5
 z5:=Tryz.sizeOf5
 v5:=Tryz.zeroValue5
 t9:=Tryz.underlying9
 a9:=Tryz.isAgg9
 z9:=Tryz.sizeOf9
 v9:=Tryz.zeroValue9
 t20:=Tryz.underlying20
 a20:=Tryz.isAgg20
 z20:=Tryz.sizeOf20
 v20:=Tryz.zeroValue20
 t37:=Tryz.underlying217
 a37:=Tryz.isAgg217
 z37:=Tryz.sizeOf217
 v37:=Tryz.zeroValue217
 t46:=Tryz.underlying266
 a46:=Tryz.isAgg266
 z46:=Tryz.sizeOf266
 v46:=Tryz.zeroValue266
 t51:=Tryz.underlying264
 a51:=Tryz.isAgg264
 z51:=Tryz.sizeOf264
 v51:=Tryz.zeroValue264
 t53:=Tryz.underlying273
 a53:=Tryz.isAgg273
 z53:=Tryz.sizeOf273
 v53:=Tryz.zeroValue273
 t171:=Tryz.underlying272
 a171:=Tryz.isAgg272
 z171:=Tryz.sizeOf272
 v171:=Tryz.zeroValue272
 t173:=Tryz.underlying276
 a173:=Tryz.isAgg276
 z173:=Tryz.sizeOf276
 v173:=Tryz.zeroValue276
 t212:=Tryz.underlying279
 a212:=Tryz.isAgg279
 z212:=Tryz.sizeOf279
 v212:=Tryz.zeroValue279
 t213:=Tryz.underlying280
 a213:=Tryz.isAgg280
 z213:=Tryz.sizeOf280
 t232:=Tryz.underlying283
 a232:=Tryz.isAgg283
 z232:=Tryz.sizeOf283
 v232:=Tryz.zeroValue283
 t233:=Tryz.underlying284
 a233:=Tryz.isAgg284
 z233:=Tryz.sizeOf284
 v233:=Tryz.zeroValue284
 g17:=by kernel_rfl
 g18:=by kernel_rfl
 g19:=by kernel_rfl }
open Go.RowKit Go.Sort Go.Lib in
theorem Tryz.strconv_Itoa_small (i:Nat) (hi:i < 100) (w:World) :
 Calls Tryz.prog 175 #[.int .i64 i] w fun e w'=>e=.returned (.string ⟨(Lib.decDigits i).toArray⟩)∧w'=w:=Any.strconv_Itoa_small Tryz.lays171 i hi w
def Tryz.laysM316_ren:Go.Shelf.Ren:=⟨fun | 316=>172 | n=>n,fun | 9=>9 | 3=>3 | 4=>4 | 37=>217 | 0=>0 | 127=>252 | 5=>5 | n=>n,fun | n=>n⟩
theorem Tryz.laysM316:Go.Proofs.LaysM.n316 Tryz.prog Tryz.laysM316_ren:={
 mixed:=by kernel_rfl
 f316:=Tryz.func172.trans (congrArg some (by kernel_rfl))
 t0:=Tryz.underlying0
 a0:=Tryz.isAgg0
 z0:=Tryz.sizeOf0
 v0:=Tryz.zeroValue0
 t3:=Tryz.underlying3
 a3:=Tryz.isAgg3
 z3:=Tryz.sizeOf3
 v3:=Tryz.zeroValue3
 t4:=Tryz.underlying4
 a4:=Tryz.isAgg4
 z4:=Tryz.sizeOf4
 v4:=Tryz.zeroValue4
 t9:=Tryz.underlying9
 a9:=Tryz.isAgg9
 z9:=Tryz.sizeOf9
 v9:=Tryz.zeroValue9
 t37:=Tryz.underlying217
 a37:=Tryz.isAgg217
 z37:=Tryz.sizeOf217
 v37:=Tryz.zeroValue217
 t127:=Tryz.underlying252
 a127:=Tryz.isAgg252
 z127:=Tryz.sizeOf252
 v127:=Tryz.zeroValue252
 t5:=Tryz.underlying5
 a5:=Tryz.isAgg5
 z5:=Tryz.sizeOf5
 v5:=Tryz.zeroValue5
 i0:=by kernel_rfl
 i3:=by kernel_rfl
 i4:=by kernel_rfl
 i5:=by kernel_rfl
 i9:=by kernel_rfl
 i37:=by kernel_rfl
 i127:=by kernel_rfl }
open Go.RowKit in
theorem Tryz.stringslite_Clone (s:ByteArray) (w:World) (hlim:s.size≤281474976710656) :
 Calls Tryz.prog 172 #[.string s] w fun e w'=>e=.returned (.string s)∧Below w.heap.size w w':=Any.stringslite_Clone Tryz.laysM316 s w hlim
def Tryz.lays260_ren:Go.Shelf.Ren:=⟨fun | 260=>200 | n=>n,fun | 9=>9 | 21=>21 | 3=>3 | 4=>4 | 5=>5 | 119=>268 | 0=>0 | 46=>266 | 139=>271 | 138=>270 | n=>n,fun | 3=>1 | 4=>2 | n=>n⟩
theorem Tryz.lays260:Go.Proofs.Lays.n260 Tryz.prog Tryz.lays260_ren:={
 mixed:=by kernel_rfl
 f260:=Tryz.func200.trans (congrArg some (by kernel_rfl))
 t0:=Tryz.underlying0
 a0:=Tryz.isAgg0
 z0:=Tryz.sizeOf0
 v0:=Tryz.zeroValue0
 t3:=Tryz.underlying3
 a3:=Tryz.isAgg3
 z3:=Tryz.sizeOf3
 v3:=Tryz.zeroValue3
 t4:=Tryz.underlying4
 a4:=Tryz.isAgg4
 z4:=Tryz.sizeOf4
 v4:=Tryz.zeroValue4
 t5:=Tryz.underlying5
 a5:=Tryz.isAgg5
 z5:=Tryz.sizeOf5
 v5:=Tryz.zeroValue5
 t9:=Tryz.underlying9
 a9:=Tryz.isAgg9
 z9:=Tryz.sizeOf9
 v9:=Tryz.zeroValue9
 t21:=Tryz.underlying21
 a21:=Tryz.isAgg21
 z21:=Tryz.sizeOf21
 v21:=Tryz.zeroValue21
 t46:=Tryz.underlying266
 a46:=Tryz.isAgg266
 z46:=Tryz.sizeOf266
 v46:=Tryz.zeroValue266
 t119:=Tryz.underlying268
 a119:=Tryz.isAgg268
 z119:=Tryz.sizeOf268
 t138:=Tryz.underlying270
 a138:=Tryz.isAgg270
 z138:=Tryz.sizeOf270
 v138:=Tryz.zeroValue270
 t139:=Tryz.underlying271
 a139:=Tryz.isAgg271
 z139:=Tryz.sizeOf271
 v139:=Tryz.zeroValue271
 g3:=by kernel_rfl
 g4:=by kernel_rfl }
def Tryz.lays197_ren:Go.Shelf.Ren:=⟨fun | 197=>191 | 260=>200 | n=>n,fun | 9=>9 | 21=>21 | 3=>3 | 4=>4 | 5=>5 | 105=>261 | 119=>268 | 0=>0 | 46=>266 | 139=>271 | 138=>270 | n=>n,fun | 3=>1 | 4=>2 | n=>n⟩
theorem Tryz.lays197:Go.Proofs.Lays.n197 Tryz.prog Tryz.lays197_ren:={
 mixed:=by kernel_rfl
 f197:=Tryz.func191.trans (congrArg some (by kernel_rfl))
 f260:=Tryz.func200.trans (congrArg some (by kernel_rfl))
 t0:=Tryz.underlying0
 a0:=Tryz.isAgg0
 z0:=Tryz.sizeOf0
 v0:=Tryz.zeroValue0
 t3:=Tryz.underlying3
 a3:=Tryz.isAgg3
 z3:=Tryz.sizeOf3
 v3:=Tryz.zeroValue3
 t4:=Tryz.underlying4
 a4:=Tryz.isAgg4
 z4:=Tryz.sizeOf4
 v4:=Tryz.zeroValue4
 t5:=Tryz.underlying5
 a5:=Tryz.isAgg5
 z5:=Tryz.sizeOf5
 v5:=Tryz.zeroValue5
 t9:=Tryz.underlying9
 a9:=Tryz.isAgg9
 z9:=Tryz.sizeOf9
 v9:=Tryz.zeroValue9
 t21:=Tryz.underlying21
 a21:=Tryz.isAgg21
 z21:=Tryz.sizeOf21
 v21:=Tryz.zeroValue21
 t46:=Tryz.underlying266
 a46:=Tryz.isAgg266
 z46:=Tryz.sizeOf266
 v46:=Tryz.zeroValue266
 t105:=Tryz.underlying261
 a105:=Tryz.isAgg261
 z105:=Tryz.sizeOf261
 v105:=Tryz.zeroValue261
 t119:=Tryz.underlying268
 a119:=Tryz.isAgg268
 z119:=Tryz.sizeOf268
 t138:=Tryz.underlying270
 a138:=Tryz.isAgg270
 z138:=Tryz.sizeOf270
 v138:=Tryz.zeroValue270
 t139:=Tryz.underlying271
 a139:=Tryz.isAgg271
 z139:=Tryz.sizeOf271
 v139:=Tryz.zeroValue271
 g3:=by kernel_rfl
 g4:=by kernel_rfl }
open Go.RowKit Go.Lib in
theorem Tryz.utf8_DecodeRuneInString (s:ByteArray) (w:World) (hT:Lib.Utf8Tabs 1 2 w) :
 Calls Tryz.prog 191 #[.string s] w fun e w'=>e=.returned (.tuple #[.int .i32 (Lib.decodeGo s).1,.int .i64 (Lib.decodeGo s).2])∧Below w.heap.size w w':=Any.utf8_DecodeRuneInString Tryz.lays197 s w hT
def Tryz.lays108_ren:Go.Shelf.Ren:=⟨fun | 108=>155 | n=>n,fun | 28=>24 | 3=>3 | 0=>0 | 4=>4 | n=>n,fun | n=>n⟩
theorem Tryz.lays108:Go.Proofs.Lays.n108 Tryz.prog Tryz.lays108_ren:={
 mixed:=by kernel_rfl
 f108:=Tryz.func155.trans (congrArg some (by kernel_rfl))
 t0:=Tryz.underlying0
 a0:=Tryz.isAgg0
 z0:=Tryz.sizeOf0
 v0:=Tryz.zeroValue0
 t3:=Tryz.underlying3
 a3:=Tryz.isAgg3
 z3:=Tryz.sizeOf3
 v3:=Tryz.zeroValue3
 t4:=Tryz.underlying4
 a4:=Tryz.isAgg4
 z4:=Tryz.sizeOf4
 v4:=Tryz.zeroValue4
 t28:=Tryz.underlying24
 a28:=Tryz.isAgg24
 z28:=Tryz.sizeOf24
 v28:=Tryz.zeroValue24 }
open Go.Lib in
theorem Tryz.slices_Index_int (b off n c:Nat) (zs:List Int) (x:Int) (w:World) (hz:n≤zs.length) (hbig:n≤9223372036854775807) (hc:∀ j,j < zs.length→w.cell? ⟨b,off+j,none⟩=some (.int .i64 (zs.getD j 0))) :
 Calls Tryz.prog 155 #[.slice (some ⟨b,off,none⟩) n c,.int .i64 x] w fun e w'=>e=.returned (.int .i64 (Lib.idxOf (zs.take n) x))∧w'=w:=Any.slices_Index_int Tryz.lays108 b off n c zs x w hz hbig hc
def Tryz.lays107_ren:Go.Shelf.Ren:=⟨fun | 107=>179 | 108=>155 | n=>n,fun | 28=>24 | 3=>3 | 4=>4 | 0=>0 | n=>n,fun | n=>n⟩
theorem Tryz.lays107:Go.Proofs.Lays.n107 Tryz.prog Tryz.lays107_ren:={
 mixed:=by kernel_rfl
 f107:=Tryz.func179.trans (congrArg some (by kernel_rfl))
 f108:=Tryz.func155.trans (congrArg some (by kernel_rfl))
 t0:=Tryz.underlying0
 a0:=Tryz.isAgg0
 z0:=Tryz.sizeOf0
 v0:=Tryz.zeroValue0
 t3:=Tryz.underlying3
 a3:=Tryz.isAgg3
 z3:=Tryz.sizeOf3
 v3:=Tryz.zeroValue3
 t4:=Tryz.underlying4
 a4:=Tryz.isAgg4
 z4:=Tryz.sizeOf4
 v4:=Tryz.zeroValue4
 t28:=Tryz.underlying24
 a28:=Tryz.isAgg24
 z28:=Tryz.sizeOf24
 v28:=Tryz.zeroValue24 }
open Go.Lib in
theorem Tryz.slices_Contains_int (b off n c:Nat) (zs:List Int) (x:Int) (w:World) (hz:n≤zs.length) (hbig:n≤9223372036854775807) (hc:∀ j,j < zs.length→w.cell? ⟨b,off+j,none⟩=some (.int .i64 (zs.getD j 0))) :
 Calls Tryz.prog 179 #[.slice (some ⟨b,off,none⟩) n c,.int .i64 x] w fun e w'=>e=.returned (.bool ((zs.take n).contains x))∧w'=w:=Any.slices_Contains_int Tryz.lays107 b off n c zs x w hz hbig hc
def Tryz.lays112_ren:Go.Shelf.Ren:=⟨fun | 112=>181 | n=>n,fun | 28=>24 | 3=>3 | 4=>4 | 0=>0 | n=>n,fun | n=>n⟩
theorem Tryz.lays112:Go.Proofs.Lays.n112 Tryz.prog Tryz.lays112_ren:={
 mixed:=by kernel_rfl
 f112:=Tryz.func181.trans (congrArg some (by kernel_rfl))
 t0:=Tryz.underlying0
 a0:=Tryz.isAgg0
 z0:=Tryz.sizeOf0
 v0:=Tryz.zeroValue0
 t3:=Tryz.underlying3
 a3:=Tryz.isAgg3
 z3:=Tryz.sizeOf3
 v3:=Tryz.zeroValue3
 t4:=Tryz.underlying4
 a4:=Tryz.isAgg4
 z4:=Tryz.sizeOf4
 v4:=Tryz.zeroValue4
 t28:=Tryz.underlying24
 a28:=Tryz.isAgg24
 z28:=Tryz.sizeOf24
 v28:=Tryz.zeroValue24 }
def Tryz.laysNm223_ren:Go.Shelf.Ren:=⟨fun | 23=>150 | n=>n,fun | 22=>24 | 3=>3 | 4=>4 | 0=>0 | n=>n,fun | n=>n⟩
theorem Tryz.laysNm223:Go.Proofs.Lays2.n23 Tryz.prog Tryz.laysNm223_ren:={
 mixed:=by kernel_rfl
 f23:=Tryz.func150.trans (congrArg some (by kernel_rfl))
 t0:=Tryz.underlying0
 a0:=Tryz.isAgg0
 z0:=Tryz.sizeOf0
 v0:=Tryz.zeroValue0
 t3:=Tryz.underlying3
 a3:=Tryz.isAgg3
 z3:=Tryz.sizeOf3
 v3:=Tryz.zeroValue3
 t4:=Tryz.underlying4
 a4:=Tryz.isAgg4
 z4:=Tryz.sizeOf4
 v4:=Tryz.zeroValue4
 t22:=Tryz.underlying24
 a22:=Tryz.isAgg24
 z22:=Tryz.sizeOf24
 v22:=Tryz.zeroValue24
 i3:=by kernel_rfl }
open Go.RowKit Go.Lib Go.Sort in
theorem Tryz.slices_Reverse_int_cells (b off n c:Nat) (zs:List Int) (w:World) (hz:n≤zs.length) (hbig:n≤9223372036854775807) (hc:∀ j,j < zs.length→w.cell? ⟨b,off+j,none⟩=some (.int .i64 (zs.getD j 0))) (hf:∀ j,j < n→w.frozen? ⟨b,off+j,none⟩=false) :
 Calls Tryz.prog 181 #[.slice (some ⟨b,off,none⟩) n c] w fun e w'=>e=.returned (.tuple #[])∧∃ q,w'=(w.drewN q).setCells b off ((zs.take n).reverse.map (Value.int .i64)):=Any.slices_Reverse_int_cells Tryz.lays112 b off n c zs w hz hbig hc hf
open Go.RowKit Go.Lib Go.Sort in
theorem Tryz.slices_Delete_int_cells (b off n c i j:Nat) (zs:List Int) (w:World) (hz:n≤zs.length) (hcap:n≤c) (hm:c≤9223372036854775807) (hij:i≤j) (hj:j≤n) (hc:∀ j,j < zs.length→w.cell? ⟨b,off+j,none⟩=some (.int .i64 (zs.getD j 0))) (hf:∀ j,j < n→w.frozen? ⟨b,off+j,none⟩=false) :
 Calls Tryz.prog 150 #[.slice (some ⟨b,off,none⟩) n c,.int .i64 i,.int .i64 j] w fun e w'=>e=.returned (.slice (some ⟨b,off,none⟩) (n - (j - i)) c)∧∃ q,w'=(w.drewN q).setCells b off (((zs.take n).take i++(zs.take n).drop j++List.replicate (j - i) 0).map (Value.int .i64)):=Any.slices_Delete_int_cells Tryz.laysNm223 b off n c i j zs w hz hcap hm hij hj hc hf
end Go.Proofs
namespace Go.Proofs.YtabogkonklplcaaGreatDoor
set_option linter.unusedSimpArgs false
set_option linter.unusedVariables false
set_option maxRecDepth 20000
set_option maxHeartbeats 8000000
section
open Go.RowKit
structure St where
 n:List Nd
 r:List Sp
structure PDT where
 lies:World→(Nat→Prop)→Nat→St→Prop
 ok:St→Prop
instance:CoeFun PDT (fun _=>World→(Nat→Prop)→Nat→St→Prop):=⟨PDT.lies⟩
abbrev XG (w:World) (F:Nat→Prop) (bd:Nat) (s:St):Prop:=RDoc w F bd s.n s.r
structure PDOk (PD:PDT):Prop where
 keeps:∀ {w w':World} {F G:Nat→Prop} {b:Nat} {s:St},PD w F b s→Zb G w w'→(∀ b,F b→¬ G b)→PD w' F b s
 wider:∀ {w:World} {F G:Nat→Prop} {b:Nat} {s:St},PD w F b s→(∀ b,F b→G b)→PD w G b s
 narrow:∀ {w:World} {F:Nat→Prop} {b:Nat} {s:St},PD w F b s→PD w (fun k=>F k∧k<w.heap.size) b s
 root:PD.ok ⟨[Z5],[]⟩
def grow (F:Nat→Prop) (w:World):Nat→Prop:=fun b=>F b∨w.heap.size≤b
abbrev ptr (b:Nat):Value:=.pointer (some ⟨b,0,none⟩)
abbrev fltV (a y:Int):Value:=.agg #[.int .i64 a,.int .i64 y]
def PPost (PD:PDT) (F:Nat→Prop) (w:World) (bx:Nat) (s':St) (v:Value) (e:Ending) (w':World):Prop:=e=.returned v∧Zb F w w'∧PD w' (grow F w) bx s'
def RPost (F:Nat→Prop) (w:World) (bd:Nat) (s':St) (v:Value) (e:Ending) (w':World):Prop:=e=.returned v∧Zb F w w'∧XG w' (grow F w) bd s'
def Ans (PD:PDT) (G:World→Prop) (s:St) (pf rf:FuncId) (args:List Value) (pres:Value→Value) (rres:Value→Value):Prop :=
 ∃ (a y:Int) (s':St),PD.ok s' ∧
  (∀ (w:World) (F:Nat→Prop) (bx:Nat),G w→PD w F bx s→Calls Tryz.prog pf (ptr bx::args).toArray w (PPost PD F w bx s' (pres (errV a y)))) ∧
  (∀ (w:World) (F:Nat→Prop) (bd:Nat),XG w F bd s→Calls Tryz.prog rf (ptr bd::args).toArray w (RPost F w bd s' (rres (fltV a y))))
def Xi (w:World) (yb:Nat) (psv:Value):Prop:=∃ (l0:Value) (a0 y0:Int),l0=errV a0 y0∧w.heap[yb]?=some (.cells #[psv,l0,.int .i64 a0,.int .i64 y0] 34 (0,0))
def Z8 (PD:PDT) (FP FR:Nat→Prop) (w:World) (yb bx bd:Nat) (psv:Value) (e:Ending) (w':World):Prop :=
 e=.returned (.bool true)∧∃ (m:Nat) (s':St),w.heap.size≤m∧m≤w'.heap.size∧PD.ok s'∧Zb (fun b=>FP b∨FR b∨b=yb) w w'∧Xi w' yb psv ∧
  PD w' (fun b=>FP b∨(w.heap.size≤b∧b<m)) bx s'∧XG w' (fun b=>FR b∨(m≤b∧b<w'.heap.size)) bd s'
structure ZU (PD:PDT) (FP FR:Nat→Prop) (w:World) (yb bx bd:Nat) (psv:Value) (s:St):Prop where
 play:Xi w yb psv
 pd:PD w FP bx s
 rd:XG w FR bd s
 apart:∀ b,FP b→¬ FR b
 fy:¬ FP yb
 ry:¬ FR yb
 fl:∀ b,FP b→b<w.heap.size
 rl:∀ b,FR b→b<w.heap.size
abbrev opV (kind D A B C:Int) (S:ByteArray) (p0 p1 q0 q1:Int):Value:=.agg #[.int .i64 kind,.int .i64 D,.int .i64 A,.int .i64 B,.int .i64 C,.string S,.int .i64 p0,.int .i64 p1,.int .i64 q0,.int .i64 q1]
section
variable {PD:PDT} {G:World→Prop} {FP FR:Nat→Prop} {w:World} {yb bx bd:Nat} {psv:Value} {s:St}
theorem Xi.keeps {w w':World} {F:Nat→Prop} (h:Xi w yb psv) (hk:Zb F w w') (hF:¬ F yb):Xi w' yb psv:=by
 obtain⟨l0,a0,y0,he,h⟩:=h
 exact⟨l0,a0,y0,he,(hk.block yb (Zc h) hF).trans h⟩
theorem RDoc.narrow {w:World} {F:Nat→Prop} {bd:Nat} {s:List Nd} {rs:List Sp} (h:RDoc w F bd s rs):RDoc w (fun b=>F b∧b < w.heap.size) bd s rs:=by
 obtain⟨bn,cap,rn,rv,h⟩:=h
 exact⟨bn,cap,rn,rv,h.narrow⟩
theorem RDoc.wider {w:World} {F G:Nat→Prop} {bd:Nat} {s:List Nd} {rs:List Sp} (h:RDoc w F bd s rs) (hG:∀ b,F b→G b):RDoc w G bd s rs:=by
 obtain⟨bn,cap,rn,rv,h⟩:=h
 exact⟨bn,cap,rn,rv,h.wider hG⟩
theorem ZU.ref {W0 w1:World} (hA:ZU PD FP FR w yb bx bd psv s) (hb0:Below w.heap.size w W0) (k1:Zb FP W0 w1):XG w1 FR bd s :=
 (hA.rd.keeps (Zb.of_below (F:=fun _=>False) hb0) (fun _ _ e=>e)).keeps k1 (fun b hr hp=>hA.apart b hp hr)
theorem ZU.old {W0 w1:World} (hA:ZU PD FP FR w yb bx bd psv s) (k1:Zb FP W0 w1) {b:Nat} {o:Obj} (hb:w.heap.size≤b) (h:W0.heap[b]?=some o):w1.heap[b]?=some o :=
 (k1.block b (Zc h) (fun e=>by have:=hA.fl b e;omega)).trans h
theorem ZU.old2 {w1 w2:World} (hA:ZU PD FP FR w yb bx bd psv s) (k2:Zb FR w1 w2) {b:Nat} {o:Obj} (hb:w.heap.size≤b) (h:w1.heap[b]?=some o):w2.heap[b]?=some o :=
 (k2.block b (Zc h) (fun e=>by have:=hA.rl b e;omega)).trans h
theorem ZU.play2 {W0 w1 w2:World} (hA:ZU PD FP FR w yb bx bd psv s) (hb0:Below w.heap.size w W0) (k1:Zb FP W0 w1) (k2:Zb FR w1 w2):Xi w2 yb psv :=
 ((hA.play.keeps (Zb.of_below (F:=fun _=>False) hb0) (fun e=>e)).keeps k1 hA.fy).keeps k2 hA.ry
theorem Yx (hPD:PDOk PD) (hA:ZU PD FP FR w yb bx bd psv s) {W0 w1 w2 w4:World} {s':St} (hwf:PD.ok s') (hb0:Below w.heap.size w W0) (k1:Zb FP W0 w1) (d1:PD w1 (grow FP W0) bx s')
 (k2:Zb FR w1 w2) (r2:XG w2 (grow FR w1) bd s') (k4:Zb (fun b=>b=yb) w2 w4) (hp:Xi w4 yb psv) :
 Z8 PD FP FR w yb bx bd psv (.returned (.bool true)) w4:=by
 have z0:=hb0.size
 have z1:=k1.size
 have z2:=k2.size
 have z4:=k4.size
 have hyb:yb<w.heap.size:=by obtain⟨_,_,_,_,h⟩:=hA.play;exact Zc h
 refine⟨rfl,w1.heap.size,s',by omega,by omega,hwf,?_,hp,?_,?_⟩
 · have e1:Zb (fun b=>FP b∨FR b∨b=yb) w w1:=(Zb.of_below hb0).trans (k1.mono (fun k _ e=>.inl (.inl e)))
   have e2:Zb (fun b=>FP b∨FR b∨b=yb) w w2:=e1.trans (k2.mono (fun k _ e=>.inl (.inr (.inl e))))
   exact e2.trans (k4.mono (fun k _ e=>.inl (.inr (.inr e))))
 · have e1:=hPD.narrow d1
   have e2:=hPD.keeps e1 k2 (fun b hb hr=>by
    rcases hb.1 with h|h
    · exact hA.apart b h hr
    · have:=hA.rl b hr;omega)
   have e4:=hPD.keeps e2 k4 (fun b hb hy=>by
    rcases hb.1 with h|h
    · exact hA.fy (hy ▸ h)
    · omega)
   refine hPD.wider e4 (fun b hb=>?_)
   rcases hb.1 with h|h
   · exact .inl h
   · exact .inr ⟨by omega,hb.2⟩
 · have e1:=r2.narrow
   have e4:=e1.keeps k4 (fun b hb hy=>by
    rcases hb.1 with h|h
    · exact hA.ry (hy ▸ h)
    · omega)
   refine e4.wider (fun b hb=>?_)
   rcases hb.1 with h|h
   · exact .inl h
   · exact .inr ⟨h,by omega⟩
abbrev Z9 (w:World) (bx bd:Nat) (kind D A B C:Int) (S:ByteArray) (p0 p1 q0 q1:Int):World :=
 (w.alloc (.cells #[ptr bx,ptr bd] 44)).alloc (.cells #[.int .i64 kind,.int .i64 D,.int .i64 A,.int .i64 B,.int .i64 C,.string S,.int .i64 p0,.int .i64 p1,.int .i64 q0,.int .i64 q1] 39)
theorem Ys (w:World) (bx bd:Nat) (kind D A B C:Int) (S:ByteArray) (p0 p1 q0 q1:Int):Below w.heap.size w (Z9 w bx bd kind D A B C S p0 p1 q0 q1) :=
 ((Below.refl _ w).alloc (Nat.le_refl _) _).alloc (by simp) _
theorem Yu (w:World) (bx bd:Nat) (kind D A B C:Int) (S:ByteArray) (p0 p1 q0 q1:Int):(Z9 w bx bd kind D A B C S p0 p1 q0 q1).heap[w.heap.size]?=some (.cells #[ptr bx,ptr bd] 44 (0,0)):=by
 rw[Below.heap_alloc _ _ _ (by simp),heap_alloc_new]
theorem Yt (w:World) (bx bd:Nat) (kind D A B C:Int) (S:ByteArray) (p0 p1 q0 q1:Int):(Z9 w bx bd kind D A B C S p0 p1 q0 q1).heap[w.heap.size+1]?=some (.cells #[.int .i64 kind,.int .i64 D,.int .i64 A,.int .i64 B,.int .i64 C,.string S,.int .i64 p0,.int .i64 p1,.int .i64 q0,.int .i64 q1] 39 (0,0)):=by
 have:=heap_alloc_new (w.alloc (.cells #[ptr bx,ptr bd] 44)) (.cells #[.int .i64 kind,.int .i64 D,.int .i64 A,.int .i64 B,.int .i64 C,.string S,.int .i64 p0,.int .i64 p1,.int .i64 q0,.int .i64 q1] 39)
 simpa using this
theorem ZgL (hPD:PDOk PD) (hGB:∀ w w',G w→Below w.heap.size w w'→G w') (hA:ZU PD FP FR w yb bx bd psv s) (hg:G w)
 (D A B C:Int) (S:ByteArray) (p0 p1 q0 q1:Int) (h:∃ n:Int,Ans PD G s 52 73 [] (fun v=>.tuple #[.int .i64 n,v]) (fun v=>.tuple #[.int .i64 n,v])) :
 Calls Tryz.prog 42 #[ptr yb,.agg #[ptr bx,ptr bd],opV 2 D A B C S p0 p1 q0 q1] w (Z8 PD FP FR w yb bx bd psv):=by
 obtain⟨n,a,y,s',hwf,hp,hr⟩:=h
 have hB:=Ys w bx bd 2 D A B C S p0 p1 q0 q1
 have hbp:=Yu w bx bd 2 D A B C S p0 p1 q0 q1
 have hbo:=Yt w bx bd 2 D A B C S p0 p1 q0 q1
 have CP:=hid (hp (Z9 w bx bd 2 D A B C S p0 p1 q0 q1) FP bx (hGB _ _ hg hB) (hPD.keeps hA.pd (Zb.of_below (F:=fun _=>False) hB) (fun _ _ e=>e)))
 have HB:=hid hB
 have HBP:=hid hbp
 have HBO:=hid hbo
 have HR:=hid hr
 have HA:=hid hA
 have HPD:=hid hPD
 have HWF:=hid hwf
 clear hp hr hB hbp hbo hA hPD hwf hg hGB
 go_enter Tryz.func42,Tryz.ntmps42
 go_wp2_with (first
  | (go_at_call 52
     refine CP.out.mono ?_
     clear CP
     rintro e w1 ⟨rfl,k1,d1⟩
     have hp1:=HA.out.old k1 (Nat.le_refl _) HBP.out
     have ho1:=HA.out.old k1 (Nat.le_succ _) HBO.out
     have c10:w1.cell? ⟨w.heap.size,0,none⟩=some (ptr bx):=Za hp1 0
     have c11:w1.cell? ⟨w.heap.size,1,none⟩=some (ptr bd):=Za hp1 1
     have c22:w1.cell? ⟨w.heap.size+1,2,none⟩=some (.int .i64 A):=Za ho1 2
     have c23:w1.cell? ⟨w.heap.size+1,3,none⟩=some (.int .i64 B):=Za ho1 3
     have c24:w1.cell? ⟨w.heap.size+1,4,none⟩=some (.int .i64 C):=Za ho1 4
     have c25:w1.cell? ⟨w.heap.size+1,5,none⟩=some (.string S):=Za ho1 5
     have CR:=hid (HR.out w1 FR bd (HA.out.ref HB.out k1))
     have K1:=hid k1
     have D1:=hid d1
     clear k1 d1 hp1 ho1)
  | (go_at_call 73
     refine CR.out.mono ?_
     clear CR
     rintro e w2 ⟨rfl,k2,r2⟩
     have PL:=hid (HA.out.play2 HB.out K1.out k2)
     have K2:=hid k2
     have R2:=hid r2
     clear k2 r2)
  | (go_at_call 20
     obtain⟨l0,a0,y0,-,hq⟩:=PL.out
     refine(Yw yb psv l0 a0 y0 a y (w2.alloc (.cells #[.int .i64 a,.int .i64 y] 32)) ((Below.heap_alloc _ _ _ (Zc hq)).trans hq)).mono ?_
     rintro e w4 ⟨rfl,k4,hq4⟩
     have K4:=hid k4
     have Q4:=hid hq4
     clear k4 hq4 hq))
 go_ret
 exact Yx HPD.out HA.out HWF.out HB.out K1.out D1.out K2.out R2.out ((((Zb.refl (fun b=>b=yb) w2).alloc _)).trans (K4.out.mono (fun k _ e=>.inl e))) ⟨_,_,_,rfl,Q4.out⟩
theorem ZgP (hPD:PDOk PD) (hGB:∀ w w',G w→Below w.heap.size w w'→G w') (hA:ZU PD FP FR w yb bx bd psv s) (hg:G w)
 (D A B C:Int) (S:ByteArray) (p0 p1 q0 q1:Int) (h:∃ n:Int,Ans PD G s 53 74 [.string S] (fun v=>.tuple #[.int .i64 n,v]) (fun v=>.tuple #[.int .i64 n,v])) :
 Calls Tryz.prog 42 #[ptr yb,.agg #[ptr bx,ptr bd],opV 3 D A B C S p0 p1 q0 q1] w (Z8 PD FP FR w yb bx bd psv):=by
 obtain⟨n,a,y,s',hwf,hp,hr⟩:=h
 have hB:=Ys w bx bd 3 D A B C S p0 p1 q0 q1
 have hbp:=Yu w bx bd 3 D A B C S p0 p1 q0 q1
 have hbo:=Yt w bx bd 3 D A B C S p0 p1 q0 q1
 have CP:=hid (hp (Z9 w bx bd 3 D A B C S p0 p1 q0 q1) FP bx (hGB _ _ hg hB) (hPD.keeps hA.pd (Zb.of_below (F:=fun _=>False) hB) (fun _ _ e=>e)))
 have HB:=hid hB
 have HBP:=hid hbp
 have HBO:=hid hbo
 have HR:=hid hr
 have HA:=hid hA
 have HPD:=hid hPD
 have HWF:=hid hwf
 clear hp hr hB hbp hbo hA hPD hwf hg hGB
 go_enter Tryz.func42,Tryz.ntmps42
 go_wp2_with (first
  | (go_at_call 53
     refine CP.out.mono ?_
     clear CP
     rintro e w1 ⟨rfl,k1,d1⟩
     have hp1:=HA.out.old k1 (Nat.le_refl _) HBP.out
     have ho1:=HA.out.old k1 (Nat.le_succ _) HBO.out
     have c10:w1.cell? ⟨w.heap.size,0,none⟩=some (ptr bx):=Za hp1 0
     have c11:w1.cell? ⟨w.heap.size,1,none⟩=some (ptr bd):=Za hp1 1
     have c22:w1.cell? ⟨w.heap.size+1,2,none⟩=some (.int .i64 A):=Za ho1 2
     have c23:w1.cell? ⟨w.heap.size+1,3,none⟩=some (.int .i64 B):=Za ho1 3
     have c24:w1.cell? ⟨w.heap.size+1,4,none⟩=some (.int .i64 C):=Za ho1 4
     have c25:w1.cell? ⟨w.heap.size+1,5,none⟩=some (.string S):=Za ho1 5
     have CR:=hid (HR.out w1 FR bd (HA.out.ref HB.out k1))
     have K1:=hid k1
     have D1:=hid d1
     clear k1 d1 hp1 ho1)
  | (go_at_call 74
     refine CR.out.mono ?_
     clear CR
     rintro e w2 ⟨rfl,k2,r2⟩
     have PL:=hid (HA.out.play2 HB.out K1.out k2)
     have K2:=hid k2
     have R2:=hid r2
     clear k2 r2)
  | (go_at_call 20
     obtain⟨l0,a0,y0,-,hq⟩:=PL.out
     refine(Yw yb psv l0 a0 y0 a y (w2.alloc (.cells #[.int .i64 a,.int .i64 y] 32)) ((Below.heap_alloc _ _ _ (Zc hq)).trans hq)).mono ?_
     rintro e w4 ⟨rfl,k4,hq4⟩
     have K4:=hid k4
     have Q4:=hid hq4
     clear k4 hq4 hq))
 go_ret
 exact Yx HPD.out HA.out HWF.out HB.out K1.out D1.out K2.out R2.out ((((Zb.refl (fun b=>b=yb) w2).alloc _)).trans (K4.out.mono (fun k _ e=>.inl e))) ⟨_,_,_,rfl,Q4.out⟩
theorem ZgM (hPD:PDOk PD) (hGB:∀ w w',G w→Below w.heap.size w w'→G w') (hA:ZU PD FP FR w yb bx bd psv s) (hg:G w)
 (D A B C:Int) (S:ByteArray) (p0 p1 q0 q1:Int) (h:Ans PD G s 54 75 [.int .i64 A,.int .i64 B,.int .i64 C] (fun v=>v) (fun v=>v)) :
 Calls Tryz.prog 42 #[ptr yb,.agg #[ptr bx,ptr bd],opV 4 D A B C S p0 p1 q0 q1] w (Z8 PD FP FR w yb bx bd psv):=by
 obtain⟨a,y,s',hwf,hp,hr⟩:=h
 have hB:=Ys w bx bd 4 D A B C S p0 p1 q0 q1
 have hbp:=Yu w bx bd 4 D A B C S p0 p1 q0 q1
 have hbo:=Yt w bx bd 4 D A B C S p0 p1 q0 q1
 have CP:=hid (hp (Z9 w bx bd 4 D A B C S p0 p1 q0 q1) FP bx (hGB _ _ hg hB) (hPD.keeps hA.pd (Zb.of_below (F:=fun _=>False) hB) (fun _ _ e=>e)))
 have HB:=hid hB
 have HBP:=hid hbp
 have HBO:=hid hbo
 have HR:=hid hr
 have HA:=hid hA
 have HPD:=hid hPD
 have HWF:=hid hwf
 clear hp hr hB hbp hbo hA hPD hwf hg hGB
 go_enter Tryz.func42,Tryz.ntmps42
 go_wp2_with (first
  | (go_at_call 54
     refine CP.out.mono ?_
     clear CP
     rintro e w1 ⟨rfl,k1,d1⟩
     have hp1:=HA.out.old k1 (Nat.le_refl _) HBP.out
     have ho1:=HA.out.old k1 (Nat.le_succ _) HBO.out
     have c10:w1.cell? ⟨w.heap.size,0,none⟩=some (ptr bx):=Za hp1 0
     have c11:w1.cell? ⟨w.heap.size,1,none⟩=some (ptr bd):=Za hp1 1
     have c22:w1.cell? ⟨w.heap.size+1,2,none⟩=some (.int .i64 A):=Za ho1 2
     have c23:w1.cell? ⟨w.heap.size+1,3,none⟩=some (.int .i64 B):=Za ho1 3
     have c24:w1.cell? ⟨w.heap.size+1,4,none⟩=some (.int .i64 C):=Za ho1 4
     have c25:w1.cell? ⟨w.heap.size+1,5,none⟩=some (.string S):=Za ho1 5
     have CR:=hid (HR.out w1 FR bd (HA.out.ref HB.out k1))
     have K1:=hid k1
     have D1:=hid d1
     clear k1 d1 hp1 ho1)
  | (go_at_call 75
     refine CR.out.mono ?_
     clear CR
     rintro e w2 ⟨rfl,k2,r2⟩
     have PL:=hid (HA.out.play2 HB.out K1.out k2)
     have K2:=hid k2
     have R2:=hid r2
     clear k2 r2)
  | (go_at_call 20
     obtain⟨l0,a0,y0,-,hq⟩:=PL.out
     refine(Yw yb psv l0 a0 y0 a y w2 hq).mono ?_
     rintro e w4 ⟨rfl,k4,hq4⟩
     have K4:=hid k4
     have Q4:=hid hq4
     clear k4 hq4 hq))
 go_ret
 exact Yx HPD.out HA.out HWF.out HB.out K1.out D1.out K2.out R2.out K4.out ⟨_,_,_,rfl,Q4.out⟩
theorem ZgN (hPD:PDOk PD) (hGB:∀ w w',G w→Below w.heap.size w w'→G w') (hA:ZU PD FP FR w yb bx bd psv s) (hg:G w)
 (D A B C:Int) (S:ByteArray) (p0 p1 q0 q1:Int) (h:Ans PD G s 60 76 [.int .i64 A] (fun v=>v) (fun v=>v)) :
 Calls Tryz.prog 42 #[ptr yb,.agg #[ptr bx,ptr bd],opV 5 D A B C S p0 p1 q0 q1] w (Z8 PD FP FR w yb bx bd psv):=by
 obtain⟨a,y,s',hwf,hp,hr⟩:=h
 have hB:=Ys w bx bd 5 D A B C S p0 p1 q0 q1
 have hbp:=Yu w bx bd 5 D A B C S p0 p1 q0 q1
 have hbo:=Yt w bx bd 5 D A B C S p0 p1 q0 q1
 have CP:=hid (hp (Z9 w bx bd 5 D A B C S p0 p1 q0 q1) FP bx (hGB _ _ hg hB) (hPD.keeps hA.pd (Zb.of_below (F:=fun _=>False) hB) (fun _ _ e=>e)))
 have HB:=hid hB
 have HBP:=hid hbp
 have HBO:=hid hbo
 have HR:=hid hr
 have HA:=hid hA
 have HPD:=hid hPD
 have HWF:=hid hwf
 clear hp hr hB hbp hbo hA hPD hwf hg hGB
 go_enter Tryz.func42,Tryz.ntmps42
 go_wp2_with (first
  | (go_at_call 60
     refine CP.out.mono ?_
     clear CP
     rintro e w1 ⟨rfl,k1,d1⟩
     have hp1:=HA.out.old k1 (Nat.le_refl _) HBP.out
     have ho1:=HA.out.old k1 (Nat.le_succ _) HBO.out
     have c10:w1.cell? ⟨w.heap.size,0,none⟩=some (ptr bx):=Za hp1 0
     have c11:w1.cell? ⟨w.heap.size,1,none⟩=some (ptr bd):=Za hp1 1
     have c22:w1.cell? ⟨w.heap.size+1,2,none⟩=some (.int .i64 A):=Za ho1 2
     have c23:w1.cell? ⟨w.heap.size+1,3,none⟩=some (.int .i64 B):=Za ho1 3
     have c24:w1.cell? ⟨w.heap.size+1,4,none⟩=some (.int .i64 C):=Za ho1 4
     have c25:w1.cell? ⟨w.heap.size+1,5,none⟩=some (.string S):=Za ho1 5
     have CR:=hid (HR.out w1 FR bd (HA.out.ref HB.out k1))
     have K1:=hid k1
     have D1:=hid d1
     clear k1 d1 hp1 ho1)
  | (go_at_call 76
     refine CR.out.mono ?_
     clear CR
     rintro e w2 ⟨rfl,k2,r2⟩
     have PL:=hid (HA.out.play2 HB.out K1.out k2)
     have K2:=hid k2
     have R2:=hid r2
     clear k2 r2)
  | (go_at_call 20
     obtain⟨l0,a0,y0,-,hq⟩:=PL.out
     refine(Yw yb psv l0 a0 y0 a y w2 hq).mono ?_
     rintro e w4 ⟨rfl,k4,hq4⟩
     have K4:=hid k4
     have Q4:=hid hq4
     clear k4 hq4 hq))
 go_ret
 exact Yx HPD.out HA.out HWF.out HB.out K1.out D1.out K2.out R2.out K4.out ⟨_,_,_,rfl,Q4.out⟩
theorem ZgO (hPD:PDOk PD) (hGB:∀ w w',G w→Below w.heap.size w w'→G w') (hA:ZU PD FP FR w yb bx bd psv s) (hg:G w)
 (D A B C:Int) (S:ByteArray) (p0 p1 q0 q1:Int) (h:∃ b:ByteArray,Ans PD G s 55 77 [.int .i64 A] (fun v=>.tuple #[.string b,v]) (fun v=>.tuple #[.string b,v])) :
 Calls Tryz.prog 42 #[ptr yb,.agg #[ptr bx,ptr bd],opV 6 D A B C S p0 p1 q0 q1] w (Z8 PD FP FR w yb bx bd psv):=by
 obtain⟨b,a,y,s',hwf,hp,hr⟩:=h
 have hB:=Ys w bx bd 6 D A B C S p0 p1 q0 q1
 have hbp:=Yu w bx bd 6 D A B C S p0 p1 q0 q1
 have hbo:=Yt w bx bd 6 D A B C S p0 p1 q0 q1
 have CP:=hid (hp (Z9 w bx bd 6 D A B C S p0 p1 q0 q1) FP bx (hGB _ _ hg hB) (hPD.keeps hA.pd (Zb.of_below (F:=fun _=>False) hB) (fun _ _ e=>e)))
 have HB:=hid hB
 have HBP:=hid hbp
 have HBO:=hid hbo
 have HR:=hid hr
 have HA:=hid hA
 have HPD:=hid hPD
 have HWF:=hid hwf
 clear hp hr hB hbp hbo hA hPD hwf hg hGB
 have hbb:(b.toList == b.toList)=true:=by simp
 go_enter Tryz.func42,Tryz.ntmps42
 go_wp2_with (first
  | (go_at_call 55
     refine CP.out.mono ?_
     clear CP
     rintro e w1 ⟨rfl,k1,d1⟩
     have hp1:=HA.out.old k1 (Nat.le_refl _) HBP.out
     have ho1:=HA.out.old k1 (Nat.le_succ _) HBO.out
     have c10:w1.cell? ⟨w.heap.size,0,none⟩=some (ptr bx):=Za hp1 0
     have c11:w1.cell? ⟨w.heap.size,1,none⟩=some (ptr bd):=Za hp1 1
     have c22:w1.cell? ⟨w.heap.size+1,2,none⟩=some (.int .i64 A):=Za ho1 2
     have c23:w1.cell? ⟨w.heap.size+1,3,none⟩=some (.int .i64 B):=Za ho1 3
     have c24:w1.cell? ⟨w.heap.size+1,4,none⟩=some (.int .i64 C):=Za ho1 4
     have c25:w1.cell? ⟨w.heap.size+1,5,none⟩=some (.string S):=Za ho1 5
     have CR:=hid (HR.out w1 FR bd (HA.out.ref HB.out k1))
     have K1:=hid k1
     have D1:=hid d1
     clear k1 d1 hp1 ho1)
  | (go_at_call 77
     refine CR.out.mono ?_
     clear CR
     rintro e w2 ⟨rfl,k2,r2⟩
     have PL:=hid (HA.out.play2 HB.out K1.out k2)
     have K2:=hid k2
     have R2:=hid r2
     clear k2 r2)
  | (go_at_call 20
     obtain⟨l0,a0,y0,-,hq⟩:=PL.out
     refine(Yw yb psv l0 a0 y0 a y (w2.alloc (.cells #[.int .i64 a,.int .i64 y] 32)) ((Below.heap_alloc _ _ _ (Zc hq)).trans hq)).mono ?_
     rintro e w4 ⟨rfl,k4,hq4⟩
     have K4:=hid k4
     have Q4:=hid hq4
     clear k4 hq4 hq))
 go_ret
 exact Yx HPD.out HA.out HWF.out HB.out K1.out D1.out K2.out R2.out ((((Zb.refl (fun b=>b=yb) w2).alloc _)).trans (K4.out.mono (fun k _ e=>.inl e))) ⟨_,_,_,rfl,Q4.out⟩
end
end
section
open Go.RowKit
theorem all_kid {s:List Nd} (wf:WF s) {h:Nat→Nat} {B:Nat} (u:Up s h B):∀ (k e p d:Nat),h e < k→p∈allF s k e→d∈ZD s p→d∈allF s k e:=by
 intro k
 induction k with
 | zero=>intro e p d he;omega
 | succ k ih =>
   intro e p d he hp hd
   simp only[allF,List.mem_cons,List.mem_flatMap] at hp ⊢
   rcases hp with rfl|⟨c,hc,hp⟩
   · obtain⟨x,hx,hdx⟩:=Y8 hd
     have hh:=(wf.kid_lt u hx hdx).2
     refine .inr ⟨d,hd,?_⟩
     obtain⟨k',rfl⟩:∃ k',k=k'+1:=⟨k - 1,by omega⟩
     simp[allF]
   · obtain⟨x,hx,hcx⟩:=Y8 hc
     have hh:=(wf.kid_lt u hx hcx).2
     exact .inr ⟨c,hc,ih c p d (by omega) hp hd⟩
theorem Zct {s:List Nd} (wf:WF s) {h:Nat→Nat} {B:Nat} (u:Up s h B) (k e:Nat) (he:h e < k):∀ (m d:Nat),d < s.length→climb s m d=(e:Int)→d∈allF s k e:=by
 intro m
 induction m with
 | zero =>
   intro d hd hc
   have:d=e:=by simp[climb] at hc;omega
   subst this
   obtain⟨k',rfl⟩:∃ k',k=k'+1:=⟨k - 1,by omega⟩
   simp[allF]
 | succ m ih =>
   intro d hd hc
   have hx:s[d]?=some s[d]:=List.getElem?_eq_getElem hd
   generalize s[d]=x at hx
   have e1:climb s 1 d=x.p:=by rw[Ya (j:=0) (e:=d) rfl];simp[Zw,hx]
   rcases wf.par d x hx with hp|⟨i,y,hp,hy,hdy⟩
   · exfalso
     have hneg:∀ k,climb s (k+1) d<0:=by
      intro k
      induction k with
      | zero=>rw[show (0+1)=1 from rfl,e1];omega
      | succ k ih2=>simp[climb] at ih2 ⊢;omega
     have:=hneg m
     omega
   · rw[hp] at e1
     have e2:=YF e1 m
     rw[Nat.add_comm 1 m,hc] at e2
     exact all_kid wf u k e i d he (ih i (List.getElem?_eq_some_iff.1 hy).1 e2.symm) (by rw[Yp hy];exact hdy)
theorem Zjc {s:List Nd} (wf:WF s) {h:Nat→Nat} {B:Nat} (u:Up s h B) (o:Nat):∀ (N i:Nat),B+1 - h i≤N→i < s.length→(∃ m,climb s m i=(o:Int))∨Lim (fun c=>ZT s c (i:Int) (o:Int)) false:=by
 intro N
 induction N with
 | zero=>intro i hi;have:=u.le i;omega
 | succ N ih =>
   intro i hi hl
   by_cases hio:i=o
   · exact .inl ⟨0,by simp[climb,hio]⟩
   · have hx:s[i]?=some s[i]:=List.getElem?_eq_getElem hl
     generalize s[i]=x at hx
     have e1:climb s 1 i=x.p:=by rw[Ya (j:=0) (e:=i) rfl];simp[Zw,hx]
     rcases wf.par i x hx with hp|⟨q,y,hp,hy,hdy⟩
     · exact .inr (Zbb s i x o hx (by omega) (by rw[hp];exact ZeO s _ _ (by omega)))
     · have hh:=(u.par i x hx (by omega)).2
       rw[hp] at hh e1
       simp at hh
       have hb:=u.le q
       have hc:=u.le i
       rcases ih q (by omega) (List.getElem?_eq_some_iff.1 hy).1 with ⟨m,hm⟩|hf
       · exact .inl ⟨1+m,by rw[YF e1 m];exact hm⟩
       · exact .inr (Zbb s i x o hx (by omega) (by rw[hp];exact hf))
theorem Zax {s:List Nd} (wf:WF s) {k n d:Nat} (hd:d < s.length) (hm:d∈allF s k n):Lim (fun c=>ZT s c (d:Int) (n:Int)) true:=by
 obtain⟨h,B,u⟩:=wf.up
 obtain⟨j,hj⟩:=XH wf k n d hm
 exact Zcj u j d n hd hj
theorem JV {s:List Nd} (wf:WF s) {h:Nat→Nat} {B:Nat} (u:Up s h B) {k n d:Nat} (hd:d < s.length) (hk:h n < k) (hm:d∉allF s k n):Lim (fun c=>ZT s c (d:Int) (n:Int)) false:=by
 rcases Zjc wf u n _ d (Nat.le_refl _) hd with ⟨m,hc⟩|hf
 · exact absurd (Zct wf u k n hk m d hd hc) hm
 · exact hf
end
section
open Go.RowKit Go.Shelf
attribute [local go_sem] Oper.semAt_some
theorem Jz (bf:Nat) (c:Int) (w:World):Calls Tryz.prog 90 #[ptr bf,.int .i64 c] w fun e w' =>
 e=.returned (.func (.func 138) #[] #[ptr (w.heap.size+1),ptr w.heap.size])∧w'=(w.alloc (.cells #[ptr bf] 91)).alloc (.cells #[.int .i64 c] 3):=by
 go_enter Tryz.func90,Tryz.ntmps90
 go_wp2
 go_ret
 exact⟨by simp,rfl⟩
structure Seen (s:List Nd) (F:Nat→Prop) (bf bn cap:Nat) (pn:List PN) (n b1 b2 b3 l:Nat) (w:World):Prop where
 forest:Zh w F bf bn cap pn s
 number:w.cell? ⟨b1,0,none⟩=some (.int .i64 n)
 whose:w.cell? ⟨b2,0,none⟩=some (ptr bf)
 yield:w.cell? ⟨b3,0,none⟩=some (.func (.yield l) #[] #[])
theorem Seen.keeps {s:List Nd} {F O:Nat→Prop} {bf bn cap:Nat} {pn:List PN} {n b1 b2 b3 l:Nat} {w w':World} (h:Seen s F bf bn cap pn n b1 b2 b3 l w) (hk:Zb O w w') (hF:∀ b,F b→¬ O b) (o1:¬ O b1) (o2:¬ O b2) (o3:¬ O b3):Seen s F bf bn cap pn n b1 b2 b3 l w' :=
 ⟨h.forest.keeps hk hF,hk.cell h.number o1,hk.cell h.whose o2,hk.cell h.yield o3⟩
theorem Zad {s:List Nd} (wf:WF s) {h:Nat→Nat} {B:Nat} (u:Up s h B) {F:Nat→Prop} {bf bn cap:Nat} {pn:List PN}:∀ (k n:Nat),n < s.length→h n < k→∀ (w:World) (O:Nat→Prop) (b1 b2:Nat),Zh w F bf bn cap pn s→(∀ b,F b→b < w.heap.size∧¬ O b) →
 w.cell? ⟨b1,0,none⟩=some (.int .i64 n)→w.cell? ⟨b2,0,none⟩=some (ptr bf)→¬ O b1→¬ O b2→Jv Tryz.prog 138 #[ptr b1,ptr b2] (allF s k n) w O:=by
 intro k
 induction k with
 | zero=>intro n _ hh;omega
 | succ k ih =>
   intro n hn hh w O b1 b2 hD hF c1 c2 o1 o2 l J Jx O1 w1 hb hO1 hlt mJ mJx hY hJ0
   have hb1:=hb
   have l1:=World.block_lt_of_cell? w _ c1
   have l2:=World.block_lt_of_cell? w _ c2
   have hF1:∀ b,F b→¬ O1 b:=fun b hb1 e=>(hO1 b e).elim (hF b hb1).2 (fun e=>by have:=(hF b hb1).1;omega)
   have p1:¬ O1 b1:=fun e=>(hO1 _ e).elim o1 (fun e=>by simp at l1;omega)
   have p2:¬ O1 b2:=fun e=>(hO1 _ e).elim o2 (fun e=>by simp at l2;omega)
   have p3:¬ O1 w1.heap.size:=fun e=>by have:=hlt _ e;omega
   have hk0:Zb O1 w1 (w1.alloc (.cells #[.func (.yield l) #[] #[]] 83)):=(Zb.refl _ _).alloc _
   have S0:Seen s F bf bn cap pn n b1 b2 w1.heap.size l (w1.alloc (.cells #[.func (.yield l) #[] #[]] 83)) :=
    ⟨(hD.below hb).keeps hk0 hF1,hk0.cell ((hb.cell (p:=⟨b1,0,none⟩) l1).trans c1) p1,hk0.cell ((hb.cell (p:=⟨b2,0,none⟩) l2).trans c2) p2,Za (heap_alloc_new w1 _) 0⟩
   have hJ1:J [] O1 (w1.alloc (.cells #[.func (.yield l) #[] #[]] 83)):=mJ _ _ _ _ hJ0 ((Zb.refl _ _).alloc _)
   obtain⟨fn,tmps,assign,body,hy,hR⟩:=hY 0 [] n O1 _ hJ1 ⟨(ZD s n).flatMap (allF s k),rfl⟩ (fun b e=>by have:=hlt b e;simp;omega)
   have e1:=S0.number
   have e2:=S0.yield
   have SS:=hid S0
   have HR:=hid hR
   refine callsIn_wide.1 (callsIn_of_wp_marks (F:=Fence.wide) (n:=1) Tryz.func138 rfl trivial ?_ rfl)
   clear hR S0 hJ1 hJ0 c1 c2 hb hD
   simp only[Tryz.ntmps138,List.size_toArray,List.length_cons,List.length_nil,Nat.reduceAdd,Nat.reduceSub,Array.replicate_succ,Array.replicate_zero,List.push_toArray,List.append_toArray,List.nil_append,List.cons_append]
   dsimp only[encN] at hy
   gi_wp2
   refine HR.out.mono ?_
   rintro e w2 ⟨O2,st2,(⟨rfl,hJ2⟩|⟨rfl,hX2⟩)⟩
   · have S2:=SS.out.keeps st2.keeps hF1 p1 p2 p3
     have f1:=S2.number
     have f2:=S2.whose
     have h0:=S2.forest.nodesCell
     have hx:s[n]?=some s[n]:=List.getElem?_eq_getElem hn
     obtain⟨x,hxx⟩:∃ x,x=s[n]:=⟨_,rfl⟩
     rw[← hxx] at hx
     clear hxx
     obtain⟨r,hr,ho,d0,d1,d2,d3⟩:=S2.forest.look hx
     obtain⟨sa,sc,hkv⟩:∃ a c,r.kv=.slice a x.ks.length c:=by
      rcases ZB ho.kids with ⟨h1,h2⟩|⟨g,c,h1⟩
      · exact⟨none,0,by rw[h1,h2]⟩
      · exact⟨_,_,h1⟩
     rw[hkv] at d2
     have S3:=hid S2
     have RO:=hid ho
     have RH:=hid hr
     have JJ:=hid hJ2
     have ST:=hid st2
     clear S2 d0 d1 d3 hr ho hJ2 st2 hy HR SS e1 e2
     gi_wp2
     gi_region
     gi_wp2
     have hkid:∀ c∈x.ks,c<s.length∧h c<h n:=fun c hc=>wf.kid_lt u hx hc
     have hkl:x.ks.length≤40:=Nat.le_trans (Xw s.length _ (wf.nodup n x hx) (fun c hc=>(hkid c hc).1)) wf.cap
     refine wpIn_loop (fun a wr=>∃ (i:Nat) (ds:List Nat) (O':Nat→Prop) (u5 u21 u22 u23 u24 u25 u26 u32:Value),i≤x.ks.length∧a=Act.mk
      #[Value.func (Fn.yield l) #[] #[],ptr b1,ptr b2,Value.pointer (some { block:=w1.heap.size,off:=0 }),
       undef,u5,undef,Value.func (Fn.yield l) #[] #[],Value.int IntKind.i64 n,Value.bool true,
       Value.bool false,ptr bf,Value.pointer (some { block:=bf,off:=0 }),
       Value.pointer (some { block:=bf,off:=0 }),Value.slice (some { block:=bn,off:=0 }) s.length cap,
       Value.int IntKind.i64 n,Value.pointer (some { block:=bn,off:=n*4 }),
       Value.pointer (some { block:=bn,off:=n*4+2 }),Value.slice sa x.ks.length sc,
       Value.int IntKind.i64 x.ks.length,Value.int IntKind.i64 i,u21,u22,u23,u24,u25,u26,undef,
       undef,undef,undef,undef,u32] (ds.map mark) ∧
      Stp O1 O' (w1.alloc (.cells #[.func (.yield l) #[] #[]] 83)) wr∧J (n::(x.ks.take i).flatMap (allF s k)) O' wr∧Seen s F bf bn cap pn n b1 b2 w1.heap.size l wr∧ds.Nodup∧(∀ D∈ds,(w1.heap.size<D∧¬ O' D)∧wr.heap[D]?=some (.deferred (some []))))
      (fun a _=>x.ks.length - (intOf (a.tmps.getD 20 undef)).toNat) ?start ?round
     case start =>
      have st1:=ST.out.drew
      have kd:Zb (fun _=>False) w2 w2.drew:=(Zb.refl _ _).drew
      refine⟨0,[],O2,_,_,_,_,_,_,_,_,Nat.zero_le _,rfl,st1,?_,S3.out.keeps kd (fun _ _ e=>e) (fun e=>e) (fun e=>e) (fun e=>e),by simp,by simp⟩
      exact mJ _ _ _ _ JJ.out (kd.mono (fun _ _ e=>e.elim))
     case round =>
      rintro a wr ⟨i,ds,O',u5,u21,u22,u23,u24,u25,u26,u32,hi,rfl,st,hJ,hS,hnd,hds⟩
      have hsz1:=hb1.size
      have hszr:=st.keeps.size
      simp only[World.size_alloc] at hszr
      have gn:∀ b,O' b→O1 b∨w1.heap.size+1≤b:=fun b e=>by have:=st.gains b e;simpa using this
      have q1:¬ O' b1:=fun e=>(gn _ e).elim p1 (fun e=>by omega)
      have q2:¬ O' b2:=fun e=>(gn _ e).elim p2 (fun e=>by omega)
      have q3:¬ O' w1.heap.size:=fun e=>(gn _ e).elim p3 (fun e=>by omega)
      have qF:∀ b,F b→¬ O' b:=fun b hb e=>(gn _ e).elim (hF1 b hb) (fun e=>by have:=(hF b hb).1;omega)
      by_cases hil:i<x.ks.length
      · obtain⟨c,hc⟩:∃ c,x.ks[i]?=some c:=⟨_,List.getElem?_eq_getElem hil⟩
        have hcm:c∈x.ks:=List.mem_of_getElem? hc
        obtain⟨hcl,hch⟩:=hkid c hcm
        obtain⟨r2,hr2,ho2,_,_,g2,_⟩:=hS.forest.look hx
        have hrr:r2=r:=by rw[RH.out] at hr2;cases hr2;rfl
        subst hrr
        have hrow:=ho2.kids
        rw[hkv] at hrow
        rcases ZB hrow with ⟨_,hl0⟩|⟨g,cc,hv⟩
        · omega
        cases hv
        have cel:wr.cell? ⟨g,i,none⟩=some (.int .i64 (c:Int)):=by
         rw[hrow.cellAt i (by omega)]
         simp[Zg,hc]
        have hw:=hS.whose
        have hilI:(i:Int)<x.ks.length:=by omega
        have C:Hid (∀ n,CallsIn Fence.wide n _ _ _ _ _):=hid (fun n=>callsIn_wide.2 (Jz bf c wr))
        have HS:=hid hS
        have HJ:=hid hJ
        have HST:=hid st
        have HDS:=hid hds
        have HND:=hid hnd
        have HC:=hid hc
        clear hS hJ hds hnd hc g2 hrow ho2 hr2 st
        gi_wp2_with (refine⟨trivial,?_⟩;gi_at_call 90;refine(C.out _).mono ?_;rintro e w3 ⟨rfl,rfl⟩)
        obtain⟨wb,hwb⟩:∃ wb,(wr.alloc (.cells #[ptr bf] 91)).alloc (.cells #[.int .i64 (c:Int)] 3)=wb:=⟨_,rfl⟩
        have hszb:wb.heap.size=wr.heap.size+2:=by rw[← hwb];simp
        have hkb:Zb (fun _=>False) wr wb:=by rw[← hwb];exact((Zb.refl _ _).alloc _).alloc _
        have SB:Seen s F bf bn cap pn n b1 b2 w1.heap.size l wb:=HS.out.keeps hkb (fun _ _ e=>e) (fun e=>e) (fun e=>e) (fun e=>e)
        have cb1:wb.cell? ⟨wr.heap.size+1,0,none⟩=some (.int .i64 (c:Int)):=by
         have:=Za (heap_alloc_new (wr.alloc (.cells #[ptr bf] 91)) (.cells #[.int .i64 (c:Int)] 3)) 0
         rw[hwb,World.size_alloc] at this
         exact this
        have cb2:wb.cell? ⟨wr.heap.size,0,none⟩=some (ptr bf):=by
         have:=(Zb.refl (fun _=>False) (wr.alloc (.cells #[ptr bf] 91))).alloc (.cells #[.int .i64 (c:Int)] 3)
         rw[hwb] at this
         exact this.cell (Za (heap_alloc_new wr _) 0) (fun e=>e)
        have hOr:∀ b,O' b→b<wr.heap.size:=HST.out.there
        rw[hwb]
        have hxs:(n::(x.ks.take i).flatMap (allF s k))++allF s k c <+: allF s (k+1) n:=by
         refine⟨(x.ks.drop (i+1)).flatMap (allF s k),?_⟩
         simp only[allF,Yp hx,List.cons_append]
         congr 1
         have e1:x.ks.take i++c::x.ks.drop (i+1)=x.ks:=by
          obtain⟨hil',hce⟩:=List.getElem?_eq_some_iff.1 HC.out
          rw[← hce,← List.drop_eq_getElem_cons,List.take_append_drop]
         conv=>rhs;rw[← e1]
         simp
        refine J4 (gf:=138) (lb:=#[ptr (wr.heap.size+1),ptr wr.heap.size]) rfl (enters_of Tryz.func138 (by kernel_rfl) rfl) rfl (O:=O') (fun b e=>by have:=hOr b e;omega)
         (ih c hcl (by omega) wb O' _ _ SB.forest (fun b hb=>⟨by have:=(hF b hb).1;omega,qF b hb⟩) cb1 cb2 (fun e=>by have:=hOr _ e;omega) (fun e=>by have:=hOr _ e;omega))
         (fun pre O3 W=>J ((n::(x.ks.take i).flatMap (allF s k))++pre) O3 W∧Stp O' O3 wb W) (fun pre O3 W=>Jx ((n::(x.ks.take i).flatMap (allF s k))++pre) O3 W∧Stp O' O3 wb W) ?mI ?mIx ?h0
         (fun y=>Act.mk #[Value.func (Fn.yield l) #[] #[],ptr b1,ptr b2,Value.pointer (some { block:=w1.heap.size,off:=0 }),undef,Value.int IntKind.i64 c,Value.int IntKind.i64 y,
           Value.func (Fn.yield l) #[] #[],Value.int IntKind.i64 n,Value.bool true,Value.bool false,ptr bf,
           Value.pointer (some { block:=bf,off:=0 }),Value.pointer (some { block:=bf,off:=0 }),
           Value.slice (some { block:=bn,off:=0 }) s.length cap,Value.int IntKind.i64 n,
           Value.pointer (some { block:=bn,off:=n*4 }),
           Value.pointer (some { block:=bn,off:=n*4+2 }),
           Value.slice (some { block:=g,off:=0 }) x.ks.length sc,Value.int IntKind.i64 x.ks.length,
           Value.int IntKind.i64 i,Value.bool true,Value.pointer (some { block:=g,off:=i }),
           Value.int IntKind.i64 c,ptr bf,Value.int IntKind.i64 c,Value.func (.func 138) #[] #[ptr (wr.heap.size+1),ptr wr.heap.size],Value.int IntKind.i64 y,undef,undef,undef,undef,u32] []) ?assign ?body ?done ?stop
        case mI =>
         rintro pre O3 X Y ⟨h1,h2⟩ hk
         exact⟨mJ _ _ _ _ h1 (hk.mono (fun k _ e=>⟨e.1,by have:=e.2;omega⟩)),XW (Nat.le_refl _) h2 hk⟩
        case mIx =>
         rintro pre O3 X Y ⟨h1,h2⟩ hk
         exact⟨mJx _ _ _ _ h1 (hk.mono (fun k _ e=>⟨e.1,by have:=e.2;omega⟩)),XW (Nat.le_refl _) h2 hk⟩
        case h0=>exact⟨by rw[List.append_nil];exact mJ _ _ _ _ HJ.out (hkb.mono (fun _ _ e=>e.elim)),Stp.refl (fun b e=>by have:=hOr b e;omega)⟩
        case assign =>
         intro m l' y W K hK
         dsimp only[encN]
         gi_wp2
         exact hK
        case body =>
         rintro m l' pre y O3 W hpre hO3 ⟨hJ3,st3⟩
         have f3:=(SB.keeps st3.keeps qF q1 q2 q3).yield
         obtain⟨fn2,tmps2,assign2,body2,hy2,hR2⟩:=hY (m - 1) _ y O3 W hJ3 (by rw[List.append_assoc];exact((List.prefix_append_right_inj _).2 hpre).trans hxs) hO3
         have HR2:Hid (RoundIn (Fence.wide.inRound l') _ _ _ _ _ _ _ _ _):=hid hR2
         have ST3:=hid st3
         dsimp only[encN] at hy2
         have hdd:∀ k:Nat,((Fence.wide.inRound l').depth.isSome=true→1≤k):=fun k h=>by simp[Fence.wide] at h
         clear hR2 hJ3 st3 hxs SB cb1 cb2 HJ HS HDS HND HST C S3 JJ ST RO RH
         gi_wp2_with ((try refine⟨hdd _,?_⟩);refine HR2.out.mono ?_;clear HR2;rintro e W4 ⟨O4,st4,(⟨rfl,hJ4⟩|⟨rfl,hX4⟩)⟩)
         · exact⟨O4,st4,by rw[← List.append_assoc];exact hJ4,ST3.out.trans st4⟩
         · exact⟨O4,st4,by rw[← List.append_assoc];exact hX4,ST3.out.trans st4⟩
        case done =>
         rintro O5 W st5 hn5 ⟨hJ5,_⟩ hD5
         have hk5:=st5.keeps
         have S5:=SB.keeps hk5 qF q1 q2 q3
         have stb:Stp O' O' wr wb:=by rw[← hwb];exact(Stp.alloc hOr _).trans (Stp.alloc (fun b e=>by have:=hOr b e;simp;omega) _)
         have HFIN:=hid (And.intro hJ5 (And.intro st5 (And.intro hn5 (And.intro hD5 S5))))
         clear hJ5 st5 hn5 hD5 S5 hk5 SB cb1 cb2
         gi_wp2
         obtain⟨hJ5,st5,hn5,hD5,S5⟩:=HFIN.out
         refine⟨⟨i+1,wb.heap.size::ds,O5,_,_,_,_,_,_,_,_,hil,rfl,HST.out.trans (stb.trans st5),?_,S5,?_,?_⟩,?_⟩
         · rw[List.take_add_one,HC.out]
           simpa using hJ5
         · refine List.nodup_cons.2 ⟨fun hm=>?_,HND.out⟩
           have:=Zc (HDS.out _ hm).2
           omega
         · intro D hm
           rcases List.mem_cons.1 hm with rfl|hm
           · exact⟨⟨by omega,hn5⟩,hD5⟩
           · obtain⟨⟨d1,d2⟩,d3⟩:=HDS.out D hm
             have hdl:=Zc d3
             refine⟨⟨d1,fun e=>(st5.gains D e).elim d2 (fun e=>by omega)⟩,?_⟩
             rw[st5.keeps.block D (by omega) d2,hkb.block D hdl (fun e=>e)]
             exact d3
         · show x.ks.length - ((i:Int)+1).toNat<x.ks.length - ((i:Int)).toNat
           omega
        case stop =>
         rintro O5 pre W hpre st5 hn5 ⟨hX5,_⟩ hD5
         have stb:Stp O' O' wr wb:=by rw[← hwb];exact(Stp.alloc hOr _).trans (Stp.alloc (fun b e=>by have:=hOr b e;simp;omega) _)
         gi_wp2
         have hds:∀ D∈wb.heap.size::ds,(w1.heap.size≤D∧¬ O5 D)∧W.heap[D]?=some (.deferred (some [])):=by
          intro D hm
          rcases List.mem_cons.1 hm with rfl|hm
          · exact⟨⟨by omega,hn5⟩,hD5⟩
          · obtain⟨⟨d1,d2⟩,d3⟩:=HDS.out D hm
            have hdl:=Zc d3
            refine⟨⟨by omega,fun e=>(st5.gains D e).elim d2 (fun e=>by omega)⟩,?_⟩
            rw[st5.keeps.block D (by omega) d2,hkb.block D hdl (fun e=>e)]
            exact d3
         have stA:=(Stp.alloc hlt (.cells #[.func (.yield l) #[] #[]] 83)).trans (HST.out.trans (stb.trans st5))
         refine Y9 (wb.heap.size::ds) _ (List.nodup_cons.2 ⟨fun hm=>?_,HND.out⟩) (fun D hm=>(hds D hm).2) (fun w' hk=>⟨_,results_none rfl _ _ _,⟨_,rfl⟩,O5,(Jc stA (fun D hm=>(hds D hm).1) hk).1,.inr ⟨_,?_,mJx _ _ _ _ hX5 (Jc stA (fun D hm=>(hds D hm).1) hk).2⟩⟩)
         · have:=Zc (HDS.out _ hm).2
           omega
         · exact((List.prefix_append_right_inj _).2 hpre).trans hxs
      · obtain rfl:i=x.ks.length:=by omega
        have hilI:¬ (x.ks.length:Int)<x.ks.length:=by omega
        have HJ:=hid hJ
        have HST:=hid st
        have HDS:=hid hds
        have HND:=hid hnd
        clear hJ st hds hnd hS
        gi_wp2
        have stA:=(Stp.alloc hlt (.cells #[.func (.yield l) #[] #[]] 83)).trans HST.out
        have hds2:∀ D∈ds,w1.heap.size≤D∧¬ O' D:=fun D hm=>⟨by have:=(HDS.out D hm).1.1;omega,(HDS.out D hm).1.2⟩
        refine Y9 ds _ HND.out (fun D hm=>(HDS.out D hm).2) (fun w' hk=>⟨_,results_none rfl _ _ _,⟨_,rfl⟩,O',(Jc stA hds2 hk).1,.inl ?_⟩)
        have:=mJ _ _ _ _ HJ.out (Jc stA hds2 hk).2
        rw[List.take_of_length_le (Nat.le_refl _)] at this
        rw[allF,Yp hx]
        exact this
   · gi_wp2
     refine Y9 [] _ (by simp) (by simp) (fun w' hk=>⟨_,results_none rfl _ _ _,⟨_,rfl⟩,O2,?_,.inr ⟨[n],⟨(ZD s n).flatMap (allF s k),rfl⟩,?_⟩⟩)
     · exact(Jc ((Stp.alloc hlt _).trans st2) (ds:=[]) (by simp) hk).1
     · exact mJx _ _ _ _ hX2 (Jc ((Stp.alloc hlt _).trans st2) (ds:=[]) (by simp) hk).2
end
end Go.Proofs.YtabogkonklplcaaGreatDoor
