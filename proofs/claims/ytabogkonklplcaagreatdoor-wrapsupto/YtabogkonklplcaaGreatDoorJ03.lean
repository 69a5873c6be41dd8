import Derived.WalkKit
import Derived.WalkSpells
import Derived.Test.YtabogkonklplcaaGreatDoorRows
import Derived.WalkLawsBesides
import Derived.Handy
import Derived.Deep.QuietTactic
import Derived.BigQuiet
namespace Go.Proofs.YtabogkonklplcaaGreatDoor
set_option linter.unusedSimpArgs false
set_option linter.unusedVariables false
set_option maxRecDepth 20000
set_option maxHeartbeats 8000000
section
open Go.RowKit
structure Nd where
 t:Bool
 cs:List ByteArray
 ks:List Nat
 p:Int
def lots:Nat:=2000000
theorem hid {p:Prop} (h:p):Hid p:=h
structure Zb (F:Nat→Prop) (w w':World):Prop where
 os:w'.os=w.os
 tape:w'.tape=w.tape
 output:w'.output=w.output
 size:w.heap.size≤w'.heap.size
 block:∀ k,k<w.heap.size→¬ F k→w'.heap[k]?=w.heap[k]?
theorem Zb.refl (F:Nat→Prop) (w:World):Zb F w w:=⟨rfl,rfl,rfl,Nat.le_refl _,fun _ _ _=>rfl⟩
theorem Zb.trans {F:Nat→Prop} {a b c:World} (h:Zb F a b) (k:Zb (fun x=>F x∨a.heap.size≤x) b c):Zb F a c :=
 ⟨k.os.trans h.os,k.tape.trans h.tape,k.output.trans h.output,Nat.le_trans h.size k.size,
  fun i hi hF=>(k.block i (Nat.lt_of_lt_of_le hi h.size) (fun e=>e.elim hF (fun e=>by omega))).trans (h.block i hi hF)⟩
theorem Zb.mono {F G:Nat→Prop} {a b:World} (h:Zb F a b) (hFG:∀ k,k < a.heap.size→F k→G k):Zb G a b :=
 ⟨h.os,h.tape,h.output,h.size,fun k hk hG=>h.block k hk (fun e=>hG (hFG k hk e))⟩
theorem Zb.of_below {F:Nat→Prop} {a b:World} (h:Below a.heap.size a b):Zb F a b :=
 ⟨h.os,h.tape,h.output,h.size,fun k hk _=>h.block k hk⟩
theorem Zb.below {a b:World} (h:Zb (fun _=>False) a b):Below a.heap.size a b :=
 ⟨h.os,h.tape,h.output,h.size,fun k hk=>h.block k hk (fun e=>e)⟩
theorem Zb.grown {F:Nat→Prop} {a b:World} {row:Option Nat} (h:a.grownBy b row) (hr:∀ k,row=some k→F k∨a.heap.size≤k):Zb F a b :=
 ⟨h.os,h.tape,h.output,h.size,fun k hk hF=>h.block k hk (fun e=>(hr k e.symm).elim hF (fun e=>by omega))⟩
theorem Zb.setCell {F:Nat→Prop} {a w:World} (h:Zb F a w) {p:Addr} (hp:F p.block∨a.heap.size≤p.block) (u:Value):Zb F a (w.setCell p u) :=
 h.trans ⟨rfl,rfl,rfl,by simp[World.setCell],fun k hk hF=>Below.heap_setCell _ _ _ _ (fun e=>hF (e ▸ hp))⟩
theorem Zb.alloc {F:Nat→Prop} {a w:World} (h:Zb F a w) (o:Obj):Zb F a (w.alloc o) :=
 h.trans ⟨rfl,rfl,rfl,by simp,fun k hk _=>Below.heap_alloc _ _ _ hk⟩
theorem Zb.drew {F:Nat→Prop} {a w:World} (h:Zb F a w):Zb F a w.drew:=⟨h.os,h.tape,h.output,h.size,h.block⟩
theorem Zb.cell {F:Nat→Prop} {w w':World} (h:Zb F w w') {p:Addr} {v:Value} (hv:w.cell? p=some v) (hp:¬ F p.block):w'.cell? p=some v :=
 (World.cell?_of_block (w:=w) (h.block p.block (World.block_lt_of_cell? w p hv) hp)).trans hv
theorem Zc {w:World} {b:Nat} {o:Obj} (h:w.heap[b]?=some o):b < w.heap.size:=(Array.getElem?_eq_some_iff.1 h).1
theorem Zb.row {F:Nat→Prop} {w w':World} (h:Zb F w w') {e:TypeId} {z n:Nat} {v:Value} {xs:List Value} (hr:w.ownsRow 0 e z v n xs) (hv:∀ b,v.ownBlock=some b→¬ F b):w'.ownsRow 0 e z v n xs:=by
 refine⟨hr.1,?_⟩
 rcases hr.2 with hn|⟨g,cap,cur,rfl,hb,hgg,rest⟩
 · exact .inl hn
 · refine .inr ⟨g,cap,cur,rfl,hb,?_,rest⟩
   rw[h.block g (Zc hgg) (hv g rfl)]
   exact hgg
structure RN where
 t:Bool
 cv:Value
 kv:Value
 p:Int
def RN.cells (r:RN):List Value:=[.bool r.t,r.cv,r.kv,.int .i64 r.p]
theorem Zfa (rn:List RN) (i:Nat) (r:RN) (h:rn[i]?=some r) (j:Nat) (hj:j < 4):(rn.flatMap RN.cells)[i * 4+j]?=r.cells[j]?:=by
 induction rn generalizing i with
 | nil=>simp at h
 | cons a l ih =>
   cases i with
   | zero =>
     simp at h;subst h
     rw[List.flatMap_cons,Nat.zero_mul,Nat.zero_add,List.getElem?_append_left (by simpa[RN.cells] using hj)]
   | succ i =>
     have e:(i+1)*4+j=(i*4+j)+4:=by omega
     rw[e,List.flatMap_cons,List.getElem?_append_right (by simp[RN.cells])]
     simpa[RN.cells] using ih i (by simpa using h)
theorem Zfb (rn:List RN) (i:Nat) (r r':RN) (h:rn[i]?=some r) (j:Nat) (hj:j < 4) (u:Value) (he:r'.cells=r.cells.set j u) :
 (rn.flatMap RN.cells).set (i*4+j) u=(rn.set i r').flatMap RN.cells:=by
 induction rn generalizing i with
 | nil=>simp at h
 | cons a l ih =>
   cases i with
   | zero =>
     simp at h;subst h
     simp only[List.flatMap_cons,List.set_cons_zero,Nat.zero_mul,Nat.zero_add]
     rw[List.set_append_left _ _ (by simpa[RN.cells] using hj),← he]
   | succ i =>
     have e:(i+1)*4+j=(i*4+j)+4:=by omega
     simp only[List.flatMap_cons,List.set_cons_succ]
     rw[e,List.set_append_right _ _ (by simp[RN.cells])]
     congr 1
     simpa[RN.cells] using ih i (by simpa using h)
structure Sp where
 a:Int
 b:Int
 c:Int
 d:Int
def Sp.cells (r:Sp):List Value:=[.int .i64 r.a,.int .i64 r.b,.int .i64 r.c,.int .i64 r.d]
def Zg (l:List Nat):List Value:=l.map fun (k:Nat)=>Value.int .i64 (k:Int)
def ZF (l:List ByteArray):List Value:=l.map Value.string
@[simp] theorem intsV_length (l:List Nat):(Zg l).length=l.length:=by simp[Zg]
@[simp] theorem strsV_length (l:List ByteArray):(ZF l).length=l.length:=by simp[ZF]
structure NOk (w:World) (F:Nat→Prop) (bd bn:Nat) (rv:Value) (r:RN) (x:Nd):Prop where
 t:r.t=x.t
 p:r.p=x.p
 chars:w.ownsRow 0 9 1 r.cv x.cs.length (ZF x.cs)
 kids:w.ownsRow 0 3 1 r.kv x.ks.length (Zg x.ks)
 apartC:∀ b,r.cv.ownBlock=some b→F b∧b≠bd∧b≠bn∧rv.ownBlock≠some b
 apartK:∀ b,r.kv.ownBlock=some b→F b∧b≠bd∧b≠bn∧rv.ownBlock≠some b
structure Zf (w:World) (F:Nat→Prop) (bd bn cap:Nat) (rn:List RN) (rv:Value) (s:List Nd) (rs:List Sp):Prop where
 doc:w.heap[bd]?=some (.cells #[.slice (some ⟨bn,0,none⟩) rn.length cap,rv] 123 (0,0))
 nodes:w.ownsRow 0 119 4 (.slice (some ⟨bn,0,none⟩) rn.length cap) rn.length (rn.flatMap RN.cells)
 ranges:w.ownsRow 0 79 4 rv rs.length (rs.flatMap Sp.cells)
 Fd:F bd
 Fn:F bn
 ne:bd≠bn
 apart:∀ b,rv.ownBlock=some b→F b∧b≠bd∧b≠bn
 len:rn.length=s.length
 ok:∀ (i:Nat) (r:RN) (x:Nd),rn[i]?=some r→s[i]?=some x→NOk w F bd bn rv r x
def RDoc (w:World) (F:Nat→Prop) (bd:Nat) (s:List Nd) (rs:List Sp):Prop:=∃ bn cap rn rv,Zf w F bd bn cap rn rv s rs
section
variable {w:World} {F:Nat→Prop} {bd bn cap:Nat} {rn:List RN} {rv:Value} {s:List Nd} {rs:List Sp}
theorem Za {w:World} {b:Nat} {c:Array Value} {t:TypeId} {fr:Nat × Nat} (h:w.heap[b]?=some (.cells c t fr)) (j:Nat):w.cell? ⟨b,j,none⟩=c[j]?:=by
 simp[World.cell?,h]
theorem Zd {w:World} {b:Nat} {c:Array Value} {t:TypeId} (h:w.heap[b]?=some (.cells c t (0,0))) (j:Nat):w.frozen? ⟨b,j,none⟩=false:=by
 simp[World.frozen?,h]
theorem Zf.nodesCell (h:Zf w F bd bn cap rn rv s rs):w.cell? ⟨bd,0,none⟩=some (.slice (some ⟨bn,0,none⟩) s.length cap):=by
 rw[Za h.doc,← h.len];rfl
theorem Zf.rangesCell (h:Zf w F bd bn cap rn rv s rs):w.cell? ⟨bd,1,none⟩=some rv:=by
 rw[Za h.doc];rfl
theorem Zf.raw (h:Zf w F bd bn cap rn rv s rs) {i:Nat} {x:Nd} (hx:s[i]?=some x):∃ r,rn[i]?=some r∧NOk w F bd bn rv r x:=by
 have hi:i<rn.length:=by rw[h.len];exact(List.getElem?_eq_some_iff.1 hx).1
 exact⟨rn[i],List.getElem?_eq_getElem hi,h.ok i _ x (List.getElem?_eq_getElem hi) hx⟩
theorem Zf.cellAt (h:Zf w F bd bn cap rn rv s rs) {i:Nat} {r:RN} (hr:rn[i]?=some r) (j:Nat) (hj:j < 4):w.cell? ⟨bn,i * 4+j,none⟩=r.cells[j]?:=by
 have hi:=(List.getElem?_eq_some_iff.1 hr).1
 rw[h.nodes.cellAt (i*4+j) (by omega),Zfa rn i r hr j hj]
theorem Zf.look (h:Zf w F bd bn cap rn rv s rs) {i:Nat} {x:Nd} (hx:s[i]?=some x):∃ r,rn[i]?=some r∧NOk w F bd bn rv r x ∧
 w.cell? ⟨bn,i*4,none⟩=some (.bool x.t)∧w.cell? ⟨bn,i*4+1,none⟩=some r.cv∧w.cell? ⟨bn,i*4+2,none⟩=some r.kv∧w.cell? ⟨bn,i*4+3,none⟩=some (.int .i64 x.p):=by
 obtain⟨r,hr,ho⟩:=h.raw hx
 have h0:=h.cellAt hr 0 (by omega)
 have h1:=h.cellAt hr 1 (by omega)
 have h2:=h.cellAt hr 2 (by omega)
 have h3:=h.cellAt hr 3 (by omega)
 refine⟨r,hr,ho,?_,?_,?_,?_⟩
 · simpa[RN.cells,ho.t] using h0
 · simpa[RN.cells] using h1
 · simpa[RN.cells] using h2
 · simpa[RN.cells,ho.p] using h3
theorem Zf.lt (h:Zf w F bd bn cap rn rv s rs):bd < w.heap.size∧bn < w.heap.size :=
 ⟨Zc h.doc,(h.nodes.lt bn rfl).2⟩
theorem Zf.keeps {G:Nat→Prop} {w':World} (h:Zf w F bd bn cap rn rv s rs) (hk:Zb G w w') (hG:∀ b,F b→¬ G b):Zf w' F bd bn cap rn rv s rs where
 doc:=by rw[hk.block bd (Zc h.doc) (hG _ h.Fd)];exact h.doc
 nodes:=hk.row h.nodes (fun b e=>by cases e;exact hG _ h.Fn)
 ranges:=hk.row h.ranges (fun b e=>hG _ (h.apart b e).1)
 Fd:=h.Fd
 Fn:=h.Fn
 ne:=h.ne
 apart:=h.apart
 len:=h.len
 ok:=fun i r x hr hx =>
  have o:=h.ok i r x hr hx
  ⟨o.t,o.p,hk.row o.chars (fun b e=>hG _ (o.apartC b e).1),hk.row o.kids (fun b e=>hG _ (o.apartK b e).1),o.apartC,o.apartK⟩
theorem Zf.below {w':World} (h:Zf w F bd bn cap rn rv s rs) (hk:Below w.heap.size w w'):Zf w' F bd bn cap rn rv s rs :=
 h.keeps (Zb.of_below (F:=fun _=>False) hk) (fun _ _ e=>e)
theorem RDoc.keeps {G:Nat→Prop} {w':World} (h:RDoc w F bd s rs) (hk:Zb G w w') (hG:∀ b,F b→¬ G b):RDoc w' F bd s rs:=by
 obtain⟨bn,cap,rn,rv,h⟩:=h
 exact⟨bn,cap,rn,rv,h.keeps hk hG⟩
theorem Zf.wider {G:Nat→Prop} (h:Zf w F bd bn cap rn rv s rs) (hG:∀ b,F b→G b):Zf w G bd bn cap rn rv s rs where
 doc:=h.doc
 nodes:=h.nodes
 ranges:=h.ranges
 Fd:=hG _ h.Fd
 Fn:=hG _ h.Fn
 ne:=h.ne
 apart:=fun b e=>⟨hG _ (h.apart b e).1,(h.apart b e).2⟩
 len:=h.len
 ok:=fun i r x hr hx =>
  have o:=h.ok i r x hr hx
  ⟨o.t,o.p,o.chars,o.kids,fun b e=>⟨hG _ (o.apartC b e).1,(o.apartC b e).2⟩,fun b e=>⟨hG _ (o.apartK b e).1,(o.apartK b e).2⟩⟩
end
end
section
def Lim {α:Type} (f:Nat→α) (b:α):Prop:=∃ K,∀ k,K≤k→f k=b
theorem Lim.unique {α:Type} {f:Nat→α} {a b:α} (h:Lim f a) (g:Lim f b):a=b:=by
 obtain⟨K,h⟩:=h
 obtain⟨L,g⟩:=g
 rw[← h (max K L) (Nat.le_max_left _ _),g (max K L) (Nat.le_max_right _ _)]
theorem Lim.succ {α:Type} {f:Nat→α} {b:α} (h:Lim (fun k=>f (k+1)) b):Lim f b:=by
 obtain⟨K,h⟩:=h
 exact⟨K+1,fun k hk=>by obtain⟨j,rfl⟩:∃ j,k=j+1:=⟨k - 1,by omega⟩;exact h j (by omega)⟩
def Zw (s:List Nd) (i:Nat):Int:=match s[i]? with | some x=>x.p | none=>-1
def ZT (s:List Nd):Nat→Int→Int→Bool
 | 0,_,_=>false
 | k+1,n,o=>if n<0 then false else if n=o then true else ZT s k (Zw s n.toNat) o
structure Up (s:List Nd) (h:Nat→Nat) (B:Nat):Prop where
 le:∀ i,h i≤B
 par:∀ (i:Nat) (x:Nd),s[i]?=some x→0≤x.p→x.p<(s.length:Int)∧h i<h x.p.toNat
def Xg (h:Nat→Nat) (B:Nat) (n:Int):Nat:=if 0≤n then B+1 - h n.toNat else 0
theorem Jq {s:List Nd} {h:Nat→Nat} {B:Nat} (u:Up s h B) {i:Nat} {x:Nd} (hx:s[i]?=some x):Xg h B x.p < Xg h B (i:Int):=by
 unfold Xg
 have h1:=u.le i
 rw[if_pos (Int.natCast_nonneg i)]
 have e:((i:Int)).toNat=i:=by simp
 rw[e]
 by_cases hp:0≤x.p
 · rw[if_pos hp]
   have:=(u.par i x hx hp).2
   have h2:=u.le x.p.toNat
   omega
 · rw[if_neg hp];omega
theorem ZeQ (s:List Nd) (n o:Int) (hn:n < 0):Lim (fun k=>ZT s k n o) false :=
 Lim.succ ⟨0,fun k _=>by simp[ZT,hn]⟩
theorem Za9 (s:List Nd) (n:Int) (hn:0≤n):Lim (fun k=>ZT s k n n) true :=
 Lim.succ ⟨0,fun k _=>by simp[ZT];omega⟩
theorem Zba (s:List Nd) (i:Nat) (x:Nd) (o:Int) (hx:s[i]?=some x) (ho:¬ (i:Int)=o) {b:Bool} (h:Lim (fun k=>ZT s k x.p o) b):Lim (fun k=>ZT s k (i:Int) o) b:=by
 refine Lim.succ ?_
 obtain⟨K,h⟩:=h
 refine⟨K,fun k hk=>?_⟩
 have e:Zw s ((i:Int)).toNat=x.p:=by simp[Zw,hx]
 have hi:¬ (i:Int)<0:=by omega
 simp only[ZT,hi,ho,if_false,e]
 exact h k hk
end
section
open Go.RowKit
theorem ret_bool {a b:Bool} (h:a=b):Ending.returned (.bool a)=.returned (.bool b):=by rw [h]
theorem Zb1 {k:IntKind} {a b:Int} (h:a=b):Ending.returned (.int k a)=.returned (.int k b):=by rw [h]
def IsB (e:Ending) (P:Bool→Prop):Prop:=∃ b,e=.returned (.bool b)∧P b
def IsI (e:Ending) (P:Int→Prop):Prop:=∃ b,e=.returned (.int .i64 b)∧P b
def Drawn (w w':World):Prop:=∃ n,w'=w.drewN n
theorem ZB {w:World} {e:TypeId} {z:Nat} {v:Value} {n:Nat} {xs:List Value} (h:w.ownsRow 0 e z v n xs):(v=.slice none 0 0∧n=0)∨∃ g cap,v=.slice (some ⟨g,0,none⟩) n cap:=by
 rcases h.2 with h|⟨g,cap,cur,hv,_⟩
 · exact .inl h
 · exact .inr ⟨g,cap,hv⟩
section
variable {w:World} {F:Nat→Prop} {bd bn cap:Nat} {rn:List RN} {rv:Value} {s:List Nd} {rs:List Sp}
theorem is_any (hD:Zf w F bd bn cap rn rv s rs) (k:Int) :
 Calls Tryz.prog 47 #[.pointer (some ⟨bd,0,none⟩),.int .i64 k] w fun e w'=>e=.returned (.bool (decide (0≤k∧k<s.length)))∧w'=w:=by
 have h0:=hD.nodesCell
 clear hD
 by_cases hk:0≤k
 · go_enter Tryz.func47,Tryz.ntmps47
   go_wp2
   go_ret
   exact⟨by simp[hk],rfl⟩
 · have hd:decide (0≤k)=false:=by simpa using hk
   go_enter Tryz.func47,Tryz.ntmps47
   go_wp2
   go_ret
   exact⟨by simp[hk],rfl⟩
theorem ZK (k y:Int) (w:World) :
 Calls Tryz.prog 48 #[.int .i64 k,.int .i64 y] w fun e w'=>e=.returned (.agg #[.int .i64 k,.int .i64 y])∧w'=w.alloc (.cells #[.int .i64 k,.int .i64 y] 32):=by
 go_enter Tryz.func48,Tryz.ntmps48
 go_wp2
 go_returns
 exact⟨rfl,rfl⟩
theorem Zi8 (hD:Zf w F bd bn cap rn rv s rs) {ht:Nat→Nat} {B:Nat} (hU:Up s ht B) (k o:Int) (hk:k < s.length) :
 Calls Tryz.prog 116 #[.pointer (some ⟨bd,0,none⟩),.int .i64 k,.int .i64 o] w fun e w'=>w'=w∧IsB e fun b=>Lim (fun c=>ZT s c k o) b:=by
 have h0:=hD.nodesCell
 go_enter Tryz.func116,Tryz.ntmps116
 go_wp2
 go_loop [1] (fun t=>∃ m:Int,m<s.length∧t=.int .i64 m∧∀ b,Lim (fun c=>ZT s c m o) b→Lim (fun c=>ZT s c k o) b) (fun t=>Xg ht B (intOf t))
 case atStart=>exact⟨k,hk,rfl,fun _ h=>h⟩
 case round =>
  obtain⟨m,hm,rfl,hl⟩:=hrel
  by_cases h1:0≤m
  · obtain⟨i,rfl⟩:=Int.eq_ofNat_of_zero_le h1
    have hi:i<s.length:=by omega
    by_cases h2:(i:Int)=o
    · subst h2
      clear hD
      go_wp2
      go_ret
      exact⟨rfl,_,rfl,hl _ (Za9 s _ h1)⟩
    · have hx:s[i]?=some s[i]:=List.getElem?_eq_getElem hi
      obtain⟨r,hr,ho,-,-,-,hp⟩:=hD.look hx
      have HX:Hid (s[i]?=some s[i]):=hx
      generalize s[i]=x at *
      clear hD hx ho hr
      go_wp2
      refine⟨⟨x.p,?_,rfl,fun b hb=>hl b (Zba s i x o HX.out h2 hb)⟩,by simpa[intOf] using Jq hU HX.out⟩
      by_cases hp0:0≤x.p
      · exact(hU.par i x HX.out hp0).1
      · omega
  · clear hD
    go_wp2
    go_ret
    exact⟨rfl,_,rfl,hl _ (ZeQ s m o (by omega))⟩
theorem Zf2 (hD:Zf w F bd bn cap rn rv s rs) (i j:Nat) (x y:Nd) (hx:s[i]?=some x) (hj:x.p=j) (hy:s[j]?=some y) (hbig:y.ks.length < lots) :
 Calls Tryz.prog 121 #[.pointer (some ⟨bd,0,none⟩),.int .i64 i] w fun e w'=>Drawn w w'∧IsI e fun q =>
  ((∃ m:Nat,q=m∧y.ks[m]?=some i∧i∉y.ks.take m)∨(q = -1∧i∉y.ks)):=by
 unfold lots at hbig
 have h0:=hD.nodesCell
 obtain⟨r,hr,ho,-,-,-,hp⟩:=hD.look hx
 obtain⟨r',hr',ho',-,-,hk,-⟩:=hD.look hy
 rw[hj] at hp
 have hi:i<s.length:=(List.getElem?_eq_some_iff.1 hx).1
 have hj':j<s.length:=(List.getElem?_eq_some_iff.1 hy).1
 have hrow:=ho'.kids
 rcases ZB hrow with ⟨hv,hn⟩|⟨g,c,hv⟩
 · rw[hv] at hk
   have hz:y.ks=[]:=List.length_eq_zero_iff.1 hn
   clear hD ho ho' hrow hr hr' hx hy hj
   go_enter Tryz.func121,Tryz.ntmps121
   go_wp2
   go_quiet (fail)
   go_wp2
   go_rounds 1
   go_ret
   exact⟨⟨_,rfl⟩,_,rfl,.inr ⟨rfl,by simp[hz]⟩⟩
 · rw[hv] at hk
   have hcell:Hid (∀ (m:Nat) (u:Nat),y.ks[m]?=some u→w.cell? ⟨g,m,none⟩=some (.int .i64 (u:Int))):=by
    intro m u hm
    rw[hv] at hrow
    rw[hrow.cellAt m (by have:=(List.getElem?_eq_some_iff.1 hm).1;omega)]
    simp[Zg,hm]
   clear hD ho ho' hrow hr hr' hx hy hj
   go_enter Tryz.func121,Tryz.ntmps121
   go_wp2
   go_quiet (fail)
   go_wp2
   go_loop [6] (fun t=>∃ k:Nat,k≤y.ks.length∧t=.int .i64 k∧i∉y.ks.take k) (fun t=>y.ks.length - (intOf t).toNat)
   case atStart=>exact⟨0,Nat.zero_le _,rfl,by simp⟩
   case round =>
    obtain⟨k,hkl,rfl,hno⟩:=hrel
    have HN:Hid (i∉y.ks.take k):=hno
    clear hno
    by_cases hlt:k<y.ks.length
    · obtain⟨u,hu⟩:∃ u,y.ks[k]?=some u:=⟨_,List.getElem?_eq_getElem hlt⟩
      have hc:=hcell.out k u hu
      have HU:Hid (y.ks[k]?=some u):=hu
      clear hu
      by_cases hui:u=i
      · subst hui
        go_wp2
        go_ret
        exact⟨⟨_,rfl⟩,_,rfl,.inl ⟨k,rfl,HU.out,HN.out⟩⟩
      · have hne:((u:Int) == (i:Int))=false:=by simp;omega
        go_wp2
        go_round
        case rel=>exact⟨k+1,by omega,by go_num,by rw[List.take_add_one,HU.out];simp;exact⟨HN.out,fun e=>hui e.symm⟩⟩
        case measure=>simp[intOf];omega
    · go_wp2
      go_ret
      exact⟨⟨_,rfl⟩,_,rfl,.inr ⟨rfl,by have:=HN.out;rwa [List.take_of_length_le (by omega)] at this⟩⟩
end
end
end Go.Proofs.YtabogkonklplcaaGreatDoor
