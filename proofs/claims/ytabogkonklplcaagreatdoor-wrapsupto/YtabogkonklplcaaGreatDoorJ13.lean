import Derived.Test.YtabogkonklplcaaGreatDoorJ09
import Derived.Deep.RegionWith
import Derived.Deep.RegionHeld3
import Derived.Deep.Cut
import Derived.Deep.CutRange
import Derived.Laws.AppendOwnNone
import Derived.Test.YtabogkonklplcaaGreatDoorJ11
import Derived.Test.YtabogkonklplcaaGreatDoorJ06
import Derived.OrdersIn
namespace Go.Proofs.YtabogkonklplcaaGreatDoor
set_option linter.unusedSimpArgs false
set_option linter.unusedVariables false
set_option maxRecDepth 20000
set_option maxHeartbeats 8000000
section
open Go.RowKit
section
variable {w:World} {F:Nat→Prop} {bd bn cap:Nat} {rn:List RN} {rv:Value} {s:List Nd} {rs:List Sp}
theorem Zf.drewN (h:Zf w F bd bn cap rn rv s rs) (n:Nat):Zf (w.drewN n) F bd bn cap rn rv s rs :=
 h.keeps (G:=fun _=>False) ⟨rfl,rfl,rfl,Nat.le_refl _,fun _ _ _=>rfl⟩ (fun _ _ e=>e)
theorem Zf.drew (h:Zf w F bd bn cap rn rv s rs):Zf w.drew F bd bn cap rn rv s rs:=h.drewN 1
theorem JW (hD:Zf w F bd bn cap rn rv s rs) (i j m:Nat) (x y:Nd) (hx:s[i]?=some x) (hj:x.p=j) (hy:s[j]?=some y) (hbig:y.ks.length < lots) (hm:y.ks[m]?=some i) (hno:i∉y.ks.take m) :
 Calls Tryz.prog 121 #[.pointer (some ⟨bd,0,none⟩),.int .i64 i] w fun e w'=>e=.returned (.int .i64 m)∧Drawn w w':=by
 refine(Zf2 hD i j x y hx hj hy hbig).mono ?_
 rintro e w' ⟨hd,q,rfl,hq⟩
 refine⟨Zb1 ?_,hd⟩
 rcases hq with ⟨m',rfl,hm',hno'⟩|⟨_,hn⟩
 · have h1:¬ m' < m:=fun h=>hno (List.mem_of_getElem? (i:=m') (by rw[List.getElem?_take,if_pos h];exact hm'))
   have h2:¬ m<m':=fun h=>hno' (List.mem_of_getElem? (i:=m) (by rw[List.getElem?_take,if_pos h];exact hm))
   omega
 · exact absurd (List.mem_of_getElem? hm) hn
theorem ZhD (hD:Zf w F bd bn cap rn rv s rs) (n:Int) (hn:isB s n=false) :
 Calls Tryz.prog 76 #[.pointer (some ⟨bd,0,none⟩),.int .i64 n] w fun e w'=>e=.returned (.agg #[.int .i64 n,.int .i64 1])∧Below w.heap.size w w':=by
 have HD:=hid hD.faultAt
 clear hD
 go_enter Tryz.func76,Tryz.ntmps76
 go_wp2_with (first
  | (go_at_call 47;refine(ZZ HD.out _).mono ?_;rintro e w' ⟨rfl,rfl⟩)
  | (go_at_call 48;refine(ZK _ _ _).mono ?_;rintro e w' ⟨rfl,rfl⟩))
 go_returns
 refine⟨rfl,?_⟩
 go_grown
theorem ZhE (hD:Zf w F bd bn cap rn rv s rs) (i:Nat) (x:Nd) (hx:s[i]?=some x) (hp:x.p < 0) :
 Calls Tryz.prog 76 #[.pointer (some ⟨bd,0,none⟩),.int .i64 i] w fun e w'=>e=.returned (.agg #[.int .i64 i,.int .i64 4])∧Below w.heap.size w w':=by
 have hi:i<s.length:=(List.getElem?_eq_some_iff.1 hx).1
 have hn:isB s i=true:=ZC (by omega)
 have h0:=hD.nodesCell
 have hl:=hD.lt.1
 have hl2:=hD.lt.2
 obtain⟨r,hr,ho,-,-,-,hc3⟩:=hD.look hx
 have HD:=hid hD.faultAt
 clear hD hr ho hx
 go_enter Tryz.func76,Tryz.ntmps76
 go_wp2_with (first
  | (go_at_call 47;refine(ZZ HD.out _).mono ?_;rintro e w' ⟨rfl,rfl⟩)
  | (go_at_call 48;refine(ZK _ _ _).mono ?_;rintro e w' ⟨rfl,rfl⟩))
 go_returns
 refine⟨rfl,?_⟩
 go_grown
end
end
section
open Go.RowKit
def YD (w:World) (size:Nat) (xv:Value) (m:Nat) (news:List Value):Prop :=
 (xv=.slice none 0 0∧m=0∧news=[])∨∃ ad c,xv=.slice (some ad) m c∧news.length=m*size∧(∀ j u,news[j]?=some u→w.cell? (ad.add j)=some u)∧∀ u∈news,u.oneCell'=true
theorem YD.of_row {w:World} {B:Nat} {e:TypeId} {n:Nat} {v:Value} {xs:List Value} (h:w.ownsRow B e 1 v n xs) (h1:∀ u∈xs,u.oneCell'=true):YD w 1 v n xs:=by
 have h':=h
 obtain⟨hl,h2⟩:=h
 rcases h2 with ⟨e1,e2⟩|⟨g,c',cur,e1,_,hh,_,_,_,ht⟩
 · subst e2
   exact .inl ⟨e1,rfl,List.length_eq_zero_iff.1 (by omega)⟩
 · refine .inr ⟨_,_,e1,by omega,fun j u hu=>?_,h1⟩
   rw[Addr.add_lit,Nat.zero_add,Za hh,← Array.getElem?_toList]
   rw[← ht,List.getElem?_take] at hu
   split at hu
   · exact hu
   · cases hu
theorem ZeT {P:Program} (w:World) {o:Oper} {a:Act} {K:Act→World→Prop} {Q:Exit→Act→World→Prop} (s x:Operand) (t:TypeId)
 (ho:o.op=.call { callee:=.builtin .append,args:=#[s,x],argTypes:=#[t,t] })
 (base:Nat) (e:TypeId) (i:TypeInfo) (z:Value) (size bytes:Nat) (ht:P.underlying t=some (.slice e)) (hi:P.info? e=some i) (hz:i.zero=some z)
 (hsize:i.size=size) (hby:i.bytes=bytes) (hzs:z.cells.size=size) (hsz:0<size)
 (v:Value) (n:Nat) (xs:List Value) (hs:a.eval s=v) (hown:w.ownsRow base e size v n xs)
 (xv:Value) (m:Nat) (news:List Value) (hx:a.eval x=xv) (hsrc:YD w size xv m news)
 (h63:n+m≤maxLen) (hbytes:(n+m)*bytes≤140737488355328) (hbase:base≤w.heap.size)
 (h:∀ v' w',w'.ownsRow base e size v' (n+m) (xs++news)→Below base w w'→K (a.put o.dst v') w'):o.wp P a w K Q:=by
 rcases hsrc with ⟨rfl,rfl,rfl⟩|⟨ad,c,rfl,hl,hn,h1⟩
 · have hrun:=run_append_owned_none (P:=P) (w:=w) base t o.type e i size ht hi v n xs hown
   unfold Oper.wp
   simp[execOp,ho,resolve,invoke,builtin,hs,hx,hrun,Result.andThen]
   exact h v w (by simpa using hown) (Below.refl _ w)
 · exact wp_append_own w s x t ho base e i z size bytes ht hi hz hsize hby hzs hsz v n xs hs hown ad m c news hx hl hn h1 h63 hbytes hbase
    (fun v' w' h2 h3 _=>h v' w' h2 ((Below.refl base w).grown h3 hbase (fun k e=>(hown.lt k e).1)))
theorem X1 {P:Program} (w:World) {ops:Array Oper} {rest:List Oper} {o:Oper} {a:Act} {Q:Exit→Act→World→Prop} (hgd:o.guard=none) (s x:Operand) (t:TypeId)
 (ho:o.op=.call { callee:=.builtin .append,args:=#[s,x],argTypes:=#[t,t] })
 (base:Nat) (e:TypeId) (i:TypeInfo) (z:Value) (size bytes:Nat) (ht:P.underlying t=some (.slice e)) (hi:P.info? e=some i) (hz:i.zero=some z)
 (hsize:i.size=size) (hby:i.bytes=bytes) (hzs:z.cells.size=size) (hsz:0<size)
 (v:Value) (n:Nat) (xs:List Value) (hs:a.eval s=v) (hown:w.ownsRow base e size v n xs)
 (xv:Value) (m:Nat) (news:List Value) (hx:a.eval x=xv) (hsrc:YD w size xv m news)
 (h63:n+m≤maxLen) (hbytes:(n+m)*bytes≤140737488355328) (hbase:base≤w.heap.size)
 (h:∀ v' w',w'.ownsRow base e size v' (n+m) (xs++news)→Below base w w'→wpList P ops Q rest (a.put o.dst v') w'):wpList P ops Q (o::rest) a w :=
 wpList_plain hgd fun _ hK=>ZeT w s x t ho base e i z size bytes ht hi hz hsize hby hzs hsz v n xs hs hown xv m news hx hsrc h63 hbytes hbase fun v' w' h2 h3=>hK _ _ (h v' w' h2 h3)
theorem Zeo {P:Program} (w:World) {ops:Array Oper} {o:Oper} {a:Act} {K:Act→World→Prop} {Q:Exit→Act→World→Prop} {E:Prop} (hgd:o.guard=none) (s x:Operand) (t:TypeId)
 (ho:o.op=.call { callee:=.builtin .append,args:=#[s,x],argTypes:=#[t,t] })
 (base:Nat) (e:TypeId) (i:TypeInfo) (z:Value) (size bytes:Nat) (ht:P.underlying t=some (.slice e)) (hi:P.info? e=some i) (hz:i.zero=some z)
 (hsize:i.size=size) (hby:i.bytes=bytes) (hzs:z.cells.size=size) (hsz:0<size)
 (v:Value) (n:Nat) (xs:List Value) (hs:a.eval s=v) (hown:w.ownsRow base e size v n xs)
 (xv:Value) (m:Nat) (news:List Value) (hx:a.eval x=xv) (hsrc:YD w size xv m news)
 (h63:n+m≤maxLen) (hbytes:(n+m)*bytes≤140737488355328) (hbase:base≤w.heap.size)
 (h:∀ v' w',w'.ownsRow base e size v' (n+m) (xs++news)→Below base w w'→K (a.put o.dst v') w') :
 if Region.wanted o (yielded ops a.tmps)=true then Oper.wp P o a w K Q else E:=by
 have hw:Region.wanted o (yielded ops a.tmps)=true:=by simp[Region.wanted,hgd]
 rw[if_pos hw]
 exact ZeT w s x t ho base e i z size bytes ht hi hz hsize hby hzs hsz v n xs hs hown xv m news hx hsrc h63 hbytes hbase h
end
section
open Go.RowKit
section
variable {w:World} {F:Nat→Prop} {bd bn cap:Nat} {rn:List RN} {rv:Value} {s:List Nd} {rs:List Sp}
theorem Zf.newChars (h:Zf w F bd bn cap rn rv s rs) {N i:Nat} {x:Nd} {v':Value} {cs':List ByteArray} (hF:∀ b,F b→b < N) (hx:s[i]?=some x) (hrow:w.ownsRow N 9 1 v' cs'.length (ZF cs')) :
 ∃ rn2,Zf (w.setCell ⟨bn,i*4+1,none⟩ v') (fun b=>F b∨N≤b) bd bn cap rn2 rv (s.set i { x with cs:=cs' }) rs:=by
 obtain⟨r,hr,ho⟩:=h.raw hx
 have hw:=h.wider (G:=fun b=>F b∨N≤b) (fun b e=>.inl e)
 have ho2:=hw.ok i r x hr hx
 have hb:=fun b e=>(hrow.lt b e).1
 have h0:w.ownsRow 0 9 1 v' cs'.length (ZF cs'):=by
  refine⟨hrow.1,?_⟩
  rcases hrow.2 with e|⟨g,c,cur,e,_,q⟩
  · exact .inl e
  · exact .inr ⟨g,c,cur,e,Nat.zero_le _,q⟩
 refine⟨_,hw.setNode (r':={ r with cv:=v' }) hr hx 1 (by omega) v' rfl ⟨ho2.t,ho2.p,h0,ho2.kids,fun b e=>?_,ho2.apartK⟩⟩
 have h1:=hb b e
 have h2:=hF _ h.Fd
 have h3:=hF _ h.Fn
 refine⟨.inr h1,by omega,by omega,fun e2=>?_⟩
 have h4:=hF _ (h.apart b e2).1
 omega
theorem Tryz.elem107:Tryz.prog.elem 107=9:=by kernel_rfl
theorem Jp (l:List ByteArray):∀ u∈ZF l,u.oneCell'=true:=by
 intro u hu
 obtain⟨b,_,rfl⟩:=List.mem_map.1 hu
 rfl
end
end
section
open Go.RowKit
abbrev one0 (w:World):World:=w.alloc (.cells #[.int .i64 0,.int .i64 0] 32)
theorem Z1 (w:World):Below w.heap.size w (one0 w):=(Below.refl _ w).alloc (Nat.le_refl _) _
section
variable {w:World} {F:Nat→Prop} {bd bn cap:Nat} {rn:List RN} {rv:Value} {s:List Nd} {rs:List Sp}
theorem Zb2 (n k c:Int) (t:ByteArray) (f0 f1:Int) (h1:f1≠0) (hT:Calls Tryz.prog 123 #[.pointer (some ⟨bd,0,none⟩),.int .i64 n,.int .i64 k] (one0 w) fun e w'=>e=.returned (Zi f0 f1)∧Below (one0 w).heap.size (one0 w) w') :
 Calls Tryz.prog 78 #[.pointer (some ⟨bd,0,none⟩),.int .i64 n,.int .i64 k,.int .i64 c,.string t] w fun e w'=>e=.returned (Zi f0 f1)∧Below w.heap.size w w':=by
 have CF:=hid hT
 have h1b:(f1 == 0)=false:=by simpa using h1
 have HTB:=hid (Z1 w)
 clear hT h1
 go_enter Tryz.func78,Tryz.ntmps78
 go_wp2_with (first
  | (go_at_call 123;refine CF.out.mono ?_;rintro e w1 ⟨rfl,hb1⟩
     have hq2:w1.heap[w.heap.size]?=some (.cells #[.int .i64 0,.int .i64 0] 32 (0,0)):=by
      rw[hb1.block _ (by simp)]
      exact heap_alloc_new w _
     have hs1:w.heap.size+1≤w1.heap.size:=by have:=hb1.size;simpa using this
     have HB1:=hid (HTB.out.trans (hb1.mono HTB.out.size))
     have HQ2:=hid hq2
     clear hb1 hq2)
  | (go_at_call 124;refine(Zy f0 f1 _).mono ?_;rintro e w2 ⟨rfl,hb2⟩
     have hf2:w2.heap[w1.heap.size]?=some (.cells #[.int .i64 f0,.int .i64 f1] 32 (0,0)):=(hb2.block _ (by simp)).trans (heap_alloc_new w1 _)
     have hz2:w2.heap[w.heap.size]?=some (.cells #[.int .i64 0,.int .i64 0] 32 (0,0)) :=
      (hb2.block _ (by simp;omega)).trans ((((Below.refl _ w1).alloc (Nat.le_refl _) _).block _ (by omega)).trans HQ2.out)
     have cf0:w2.cell? ⟨w1.heap.size,0,none⟩=some (.int .i64 f0):=Za hf2 0
     have cf1:w2.cell? ⟨w1.heap.size,1,none⟩=some (.int .i64 f1):=Za hf2 1
     have cz0:w2.cell? ⟨w.heap.size,0,none⟩=some (.int .i64 0):=Za hz2 0
     have cz1:w2.cell? ⟨w.heap.size,1,none⟩=some (.int .i64 0):=Za hz2 1
     have fz0:=Zd hz2 0
     have fz1:=Zd hz2 1
     have HB2:=hid ((HB1.out.alloc HB1.out.size _).trans (hb2.mono (Nat.le_trans HB1.out.size (by simp))))
     have hs2:w.heap.size+1≤w2.heap.size:=by have:=hb2.size;simp at this;omega
     clear hb2 hf2
     skip
     rw[h1b]))
 refine bodyPost_ret (v:=Zi f0 f1) (by simp[results,Tryz.results78,go_sem, *]) rfl ?_
 exact⟨rfl,(HB2.out.setCell (p:=⟨w.heap.size,0,none⟩) (Nat.le_refl _) _).setCell (p:=⟨w.heap.size,1,none⟩) (Nat.le_refl _) _⟩
theorem ZhG (n k c:Int) (t:ByteArray) (hc:c < 0) (hT:Calls Tryz.prog 123 #[.pointer (some ⟨bd,0,none⟩),.int .i64 n,.int .i64 k] (one0 w) fun e w'=>e=.returned (Zi 0 0)∧Below (one0 w).heap.size (one0 w) w') :
 Calls Tryz.prog 78 #[.pointer (some ⟨bd,0,none⟩),.int .i64 n,.int .i64 k,.int .i64 c,.string t] w fun e w'=>e=.returned (Zi n 3)∧Below w.heap.size w w':=by
 have CF:=hid hT
 have h1b:((0:Int) == 0)=true:=rfl
 have hcb:decide (c<0)=true:=decide_eq_true hc
 have HTB:=hid (Z1 w)
 clear hT
 go_enter Tryz.func78,Tryz.ntmps78
 go_wp2_with (first
  | (go_at_call 123;refine CF.out.mono ?_;rintro e w1 ⟨rfl,hb1⟩
     have hq2:w1.heap[w.heap.size]?=some (.cells #[.int .i64 0,.int .i64 0] 32 (0,0)):=by
      rw[hb1.block _ (by simp)]
      exact heap_alloc_new w _
     have hs1:w.heap.size+1≤w1.heap.size:=by have:=hb1.size;simpa using this
     have HB1:=hid (HTB.out.trans (hb1.mono HTB.out.size))
     have HQ2:=hid hq2
     clear hb1 hq2)
  | (go_at_call 124;refine(Zy 0 0 _).mono ?_;rintro e w2 ⟨rfl,hb2⟩
     have hf2:w2.heap[w1.heap.size]?=some (.cells #[.int .i64 0,.int .i64 0] 32 (0,0)):=(hb2.block _ (by simp)).trans (heap_alloc_new w1 _)
     have hz2:w2.heap[w.heap.size]?=some (.cells #[.int .i64 0,.int .i64 0] 32 (0,0)) :=
      (hb2.block _ (by simp;omega)).trans ((((Below.refl _ w1).alloc (Nat.le_refl _) _).block _ (by omega)).trans HQ2.out)
     have cf0:w2.cell? ⟨w1.heap.size,0,none⟩=some (.int .i64 0):=Za hf2 0
     have cf1:w2.cell? ⟨w1.heap.size,1,none⟩=some (.int .i64 0):=Za hf2 1
     have cz0:w2.cell? ⟨w.heap.size,0,none⟩=some (.int .i64 0):=Za hz2 0
     have cz1:w2.cell? ⟨w.heap.size,1,none⟩=some (.int .i64 0):=Za hz2 1
     have fz0:=Zd hz2 0
     have fz1:=Zd hz2 1
     have HB2:=hid ((HB1.out.alloc HB1.out.size _).trans (hb2.mono (Nat.le_trans HB1.out.size (by simp))))
     have hs2:w.heap.size+1≤w2.heap.size:=by have:=hb2.size;simp at this;omega
     clear hb2 hf2
     have HZ:=hid hz2
     clear hz2
     rw[h1b])
  | (go_at_call 48;refine(ZK _ _ _).mono ?_;rintro e w5 ⟨rfl,hw5⟩
     have hz5:w5.heap[w.heap.size]?=some (.cells #[.int .i64 0,.int .i64 0] 32 (0,0)):=by rw[hw5];exact(Below.heap_alloc _ _ _ (Zc HZ.out)).trans HZ.out
     have cz5:w5.cell? ⟨w.heap.size,0,none⟩=some (.int .i64 0):=Za hz5 0
     have cz6:w5.cell? ⟨w.heap.size,1,none⟩=some (.int .i64 0):=Za hz5 1
     have fz5:=Zd hz5 0
     have fz6:=Zd hz5 1
     have hs5:=Zc hz5
     have HB5:Hid (Below w.heap.size w w5):=by rw[hw5];exact HB2.out.alloc HB2.out.size _
     clear hz5 hw5))
 refine bodyPost_ret (v:=Zi n 3) (by simp[results,Tryz.results78,go_sem, *]) rfl ?_
 exact⟨rfl,(HB5.out.setCell (p:=⟨w.heap.size,0,none⟩) (Nat.le_refl _) _).setCell (p:=⟨w.heap.size,1,none⟩) (Nat.le_refl _) _⟩
theorem ZhF (hD:Zf w F bd bn cap rn rv s rs) (n k:Nat) (c:Int) (x:Nd) (hx:s[n]?=some x) (ht:x.t=true) (hlen:x.cs.length≤30) (hk:k≤x.cs.length) (hc:0≤c) (t:ByteArray) (hts:t.size < lots) (h:Zr t=none) :
 Calls Tryz.prog 78 #[.pointer (some ⟨bd,0,none⟩),.int .i64 n,.int .i64 k,.int .i64 c,.string t] w fun e w'=>e=.returned (Zi n 6)∧Below w.heap.size w w':=by
 have hn:n<s.length:=(List.getElem?_eq_some_iff.1 hx).1
 have CF:=hid (XX (hD.below (Z1 w)) n k x hx ht hk)
 have h1b:((0:Int) == 0)=true:=rfl
 have h0:=hD.nodesCell
 have hlt:=hD.lt
 obtain⟨r,hr,ho,-,hc1,-,-⟩:=hD.look hx
 obtain⟨ca,cc,hcv⟩:=Zo ho.chars
 rw[hcv] at hc1
 have hcb:decide (c<0)=false:=decide_eq_false (by omega)
 have hkI:(k:Int)≤(x.cs.length:Int):=by omega
 have hlI:(x.cs.length:Int)≤30:=by omega
 have HTB:=hid (Z1 w)
 have HT:=hid hts
 have HC:=hid h
 clear hr ho hcv hx ht
 have key:∀ cm:Nat,(c≤(x.cs.length:Int) - k∧(cm:Int)=c∨(x.cs.length:Int) - k<c∧(cm:Int)=(x.cs.length:Int) - k)→cm=(min c ((x.cs.length:Int) - k)).toNat:=fun cm h=>by omega
 by_cases hcm:(x.cs.length:Int) - k<c
 · have hcd:decide ((x.cs.length:Int) - k<c)=true:=decide_eq_true hcm
   clear hD
   go_enter Tryz.func78,Tryz.ntmps78
   go_wp2_with (first
   | (go_at_call 123;refine CF.out.mono ?_;rintro e w1 ⟨rfl,hb1⟩
      have hq2:w1.heap[w.heap.size]?=some (.cells #[.int .i64 0,.int .i64 0] 32 (0,0)):=by
       rw[hb1.block _ (by simp)]
       exact heap_alloc_new w _
      have hs1:w.heap.size+1≤w1.heap.size:=by have:=hb1.size;simpa using this
      have HB1:=hid (HTB.out.trans (hb1.mono HTB.out.size))
      have HQ2:=hid hq2
      clear hb1 hq2)
   | (go_at_call 124;refine(Zy 0 0 _).mono ?_;rintro e w2 ⟨rfl,hb2⟩
      have hf2:w2.heap[w1.heap.size]?=some (.cells #[.int .i64 0,.int .i64 0] 32 (0,0)):=(hb2.block _ (by simp)).trans (heap_alloc_new w1 _)
      have hz2:w2.heap[w.heap.size]?=some (.cells #[.int .i64 0,.int .i64 0] 32 (0,0)) :=
       (hb2.block _ (by simp;omega)).trans ((((Below.refl _ w1).alloc (Nat.le_refl _) _).block _ (by omega)).trans HQ2.out)
      have cf0:w2.cell? ⟨w1.heap.size,0,none⟩=some (.int .i64 0):=Za hf2 0
      have cf1:w2.cell? ⟨w1.heap.size,1,none⟩=some (.int .i64 0):=Za hf2 1
      have cz0:w2.cell? ⟨w.heap.size,0,none⟩=some (.int .i64 0):=Za hz2 0
      have cz1:w2.cell? ⟨w.heap.size,1,none⟩=some (.int .i64 0):=Za hz2 1
      have fz0:=Zd hz2 0
      have fz1:=Zd hz2 1
      have HB2:=hid ((HB1.out.alloc HB1.out.size _).trans (hb2.mono (Nat.le_trans HB1.out.size (by simp))))
      have hs2:w.heap.size+1≤w2.heap.size:=by have:=hb2.size;simp at this;omega
      clear hb2 hf2
      have d0:=(HB2.out.cell (p:=⟨bd,0,none⟩) hlt.1).trans h0
      have dc1:=(HB2.out.cell (p:=⟨bn,n*4+1,none⟩) hlt.2).trans hc1
      have HZ:=hid hz2
      clear hz2 HQ2 HB1
      rw[h1b])
   | (go_at_call 115;refine(Zbl t _ HT.out HC.out).mono ?_;rintro e w3 ⟨rfl,hb3⟩
      have hz3:w3.heap[w.heap.size]?=some (.cells #[.int .i64 0,.int .i64 0] 32 (0,0)):=(hb3.block _ (Zc HZ.out)).trans HZ.out
      have cz0':w3.cell? ⟨w.heap.size,0,none⟩=some (.int .i64 0):=Za hz3 0
      have cz1':w3.cell? ⟨w.heap.size,1,none⟩=some (.int .i64 0):=Za hz3 1
      have fz0':=Zd hz3 0
      have fz1':=Zd hz3 1
      have hs3:w.heap.size+1≤w3.heap.size:=by have:=hb3.size;omega
      have HB3:=hid (HB2.out.trans (hb3.mono HB2.out.size))
      have HZ3:=hid hz3
      clear hb3 hz3)
   | (go_at_call 48;refine(ZK _ _ _).mono ?_;rintro e w5 ⟨rfl,hw5⟩
      have hz5:w5.heap[w.heap.size]?=some (.cells #[.int .i64 0,.int .i64 0] 32 (0,0)):=by rw[hw5];exact(Below.heap_alloc _ _ _ (Zc HZ3.out)).trans HZ3.out
      have cz5:w5.cell? ⟨w.heap.size,0,none⟩=some (.int .i64 0):=Za hz5 0
      have cz6:w5.cell? ⟨w.heap.size,1,none⟩=some (.int .i64 0):=Za hz5 1
      have fz5:=Zd hz5 0
      have fz6:=Zd hz5 1
      have hs5:=Zc hz5
      have HB5:Hid (Below w.heap.size w w5):=by rw[hw5];exact HB3.out.alloc HB3.out.size _
      clear hz5 hw5))
   clear CF h0 hc1 d0 dc1 cz0 cz1 fz0 fz1 cz0' cz1' fz0' fz1' cf0 cf1
   refine bodyPost_ret (v:=Zi n 6) (by simp[results,Tryz.results78,go_sem,cz5,cz6,fz5,fz6,hs5]) rfl ?_
   exact⟨rfl,(HB5.out.setCell (p:=⟨w.heap.size,0,none⟩) (Nat.le_refl _) _).setCell (p:=⟨w.heap.size,1,none⟩) (Nat.le_refl _) _⟩
 · have hcd:decide ((x.cs.length:Int) - k<c)=false:=decide_eq_false hcm
   clear hD
   go_enter Tryz.func78,Tryz.ntmps78
   go_wp2_with (first
   | (go_at_call 123;refine CF.out.mono ?_;rintro e w1 ⟨rfl,hb1⟩
      have hq2:w1.heap[w.heap.size]?=some (.cells #[.int .i64 0,.int .i64 0] 32 (0,0)):=by
       rw[hb1.block _ (by simp)]
       exact heap_alloc_new w _
      have hs1:w.heap.size+1≤w1.heap.size:=by have:=hb1.size;simpa using this
      have HB1:=hid (HTB.out.trans (hb1.mono HTB.out.size))
      have HQ2:=hid hq2
      clear hb1 hq2)
   | (go_at_call 124;refine(Zy 0 0 _).mono ?_;rintro e w2 ⟨rfl,hb2⟩
      have hf2:w2.heap[w1.heap.size]?=some (.cells #[.int .i64 0,.int .i64 0] 32 (0,0)):=(hb2.block _ (by simp)).trans (heap_alloc_new w1 _)
      have hz2:w2.heap[w.heap.size]?=some (.cells #[.int .i64 0,.int .i64 0] 32 (0,0)) :=
       (hb2.block _ (by simp;omega)).trans ((((Below.refl _ w1).alloc (Nat.le_refl _) _).block _ (by omega)).trans HQ2.out)
      have cf0:w2.cell? ⟨w1.heap.size,0,none⟩=some (.int .i64 0):=Za hf2 0
      have cf1:w2.cell? ⟨w1.heap.size,1,none⟩=some (.int .i64 0):=Za hf2 1
      have cz0:w2.cell? ⟨w.heap.size,0,none⟩=some (.int .i64 0):=Za hz2 0
      have cz1:w2.cell? ⟨w.heap.size,1,none⟩=some (.int .i64 0):=Za hz2 1
      have fz0:=Zd hz2 0
      have fz1:=Zd hz2 1
      have HB2:=hid ((HB1.out.alloc HB1.out.size _).trans (hb2.mono (Nat.le_trans HB1.out.size (by simp))))
      have hs2:w.heap.size+1≤w2.heap.size:=by have:=hb2.size;simp at this;omega
      clear hb2 hf2
      have d0:=(HB2.out.cell (p:=⟨bd,0,none⟩) hlt.1).trans h0
      have dc1:=(HB2.out.cell (p:=⟨bn,n*4+1,none⟩) hlt.2).trans hc1
      have HZ:=hid hz2
      clear hz2 HQ2 HB1
      rw[h1b])
   | (go_at_call 115;refine(Zbl t _ HT.out HC.out).mono ?_;rintro e w3 ⟨rfl,hb3⟩
      have hz3:w3.heap[w.heap.size]?=some (.cells #[.int .i64 0,.int .i64 0] 32 (0,0)):=(hb3.block _ (Zc HZ.out)).trans HZ.out
      have cz0':w3.cell? ⟨w.heap.size,0,none⟩=some (.int .i64 0):=Za hz3 0
      have cz1':w3.cell? ⟨w.heap.size,1,none⟩=some (.int .i64 0):=Za hz3 1
      have fz0':=Zd hz3 0
      have fz1':=Zd hz3 1
      have hs3:w.heap.size+1≤w3.heap.size:=by have:=hb3.size;omega
      have HB3:=hid (HB2.out.trans (hb3.mono HB2.out.size))
      have HZ3:=hid hz3
      clear hb3 hz3)
   | (go_at_call 48;refine(ZK _ _ _).mono ?_;rintro e w5 ⟨rfl,hw5⟩
      have hz5:w5.heap[w.heap.size]?=some (.cells #[.int .i64 0,.int .i64 0] 32 (0,0)):=by rw[hw5];exact(Below.heap_alloc _ _ _ (Zc HZ3.out)).trans HZ3.out
      have cz5:w5.cell? ⟨w.heap.size,0,none⟩=some (.int .i64 0):=Za hz5 0
      have cz6:w5.cell? ⟨w.heap.size,1,none⟩=some (.int .i64 0):=Za hz5 1
      have fz5:=Zd hz5 0
      have fz6:=Zd hz5 1
      have hs5:=Zc hz5
      have HB5:Hid (Below w.heap.size w w5):=by rw[hw5];exact HB3.out.alloc HB3.out.size _
      clear hz5 hw5))
   clear CF h0 hc1 d0 dc1 cz0 cz1 fz0 fz1 cz0' cz1' fz0' fz1' cf0 cf1
   refine bodyPost_ret (v:=Zi n 6) (by simp[results,Tryz.results78,go_sem,cz5,cz6,fz5,fz6,hs5]) rfl ?_
   exact⟨rfl,(HB5.out.setCell (p:=⟨w.heap.size,0,none⟩) (Nat.le_refl _) _).setCell (p:=⟨w.heap.size,1,none⟩) (Nat.le_refl _) _⟩
end
end
section
open Go.RowKit
section
variable {w:World} {F:Nat→Prop} {bd bn cap:Nat} {rn:List RN} {rv:Value} {s:List Nd} {rs:List Sp}
theorem ZhI (hD:Zf w F bd bn cap rn rv s rs) (n k:Nat) (c:Int) (x:Nd) (hx:s[n]?=some x) (ht:x.t=true) (hlen:x.cs.length≤30) (hk:k≤x.cs.length) (hc:0≤c) (t:ByteArray) (hts:t.size < lots) (l:List ByteArray) (h:Zr t=some l) (hl:30 < x.cs.length - (min c ((x.cs.length:Int) - k)).toNat+l.length) (hbig:l.length < lots) :
 Calls Tryz.prog 78 #[.pointer (some ⟨bd,0,none⟩),.int .i64 n,.int .i64 k,.int .i64 c,.string t] w fun e w'=>e=.returned (Zi n 6)∧Below w.heap.size w w':=by
 have hn:n<s.length:=(List.getElem?_eq_some_iff.1 hx).1
 have CF:=hid (XX (hD.below (Z1 w)) n k x hx ht hk)
 have h1b:((0:Int) == 0)=true:=rfl
 have h0:=hD.nodesCell
 have hlt:=hD.lt
 obtain⟨r,hr,ho,-,hc1,-,-⟩:=hD.look hx
 obtain⟨ca,cc,hcv⟩:=Zo ho.chars
 rw[hcv] at hc1
 have hcb:decide (c<0)=false:=decide_eq_false (by omega)
 have hkI:(k:Int)≤(x.cs.length:Int):=by omega
 have hlI:(x.cs.length:Int)≤30:=by omega
 have HTB:=hid (Z1 w)
 have HT:=hid hts
 have HC:=hid h
 unfold lots at hbig
 clear hr ho hcv hx ht
 have key:∀ cm:Nat,(c≤(x.cs.length:Int) - k∧(cm:Int)=c∨(x.cs.length:Int) - k<c∧(cm:Int)=(x.cs.length:Int) - k)→cm=(min c ((x.cs.length:Int) - k)).toNat:=fun cm h=>by omega
 by_cases hcm:(x.cs.length:Int) - k<c
 · have hcd:decide ((x.cs.length:Int) - k<c)=true:=decide_eq_true hcm
   have hL:(30:Int)<(x.cs.length:Int) - ((x.cs.length:Int) - k)+l.length:=by omega
   have hLd:decide ((30:Int)<(x.cs.length:Int) - ((x.cs.length:Int) - k)+l.length)=true:=decide_eq_true hL
   clear hD
   go_enter Tryz.func78,Tryz.ntmps78
   go_wp2_with (first
   | (go_at_call 123;refine CF.out.mono ?_;rintro e w1 ⟨rfl,hb1⟩
      have hq2:w1.heap[w.heap.size]?=some (.cells #[.int .i64 0,.int .i64 0] 32 (0,0)):=by
       rw[hb1.block _ (by simp)]
       exact heap_alloc_new w _
      have hs1:w.heap.size+1≤w1.heap.size:=by have:=hb1.size;simpa using this
      have HB1:=hid (HTB.out.trans (hb1.mono HTB.out.size))
      have HQ2:=hid hq2
      clear hb1 hq2)
   | (go_at_call 124;refine(Zy 0 0 _).mono ?_;rintro e w2 ⟨rfl,hb2⟩
      have hf2:w2.heap[w1.heap.size]?=some (.cells #[.int .i64 0,.int .i64 0] 32 (0,0)):=(hb2.block _ (by simp)).trans (heap_alloc_new w1 _)
      have hz2:w2.heap[w.heap.size]?=some (.cells #[.int .i64 0,.int .i64 0] 32 (0,0)) :=
       (hb2.block _ (by simp;omega)).trans ((((Below.refl _ w1).alloc (Nat.le_refl _) _).block _ (by omega)).trans HQ2.out)
      have cf0:w2.cell? ⟨w1.heap.size,0,none⟩=some (.int .i64 0):=Za hf2 0
      have cf1:w2.cell? ⟨w1.heap.size,1,none⟩=some (.int .i64 0):=Za hf2 1
      have cz0:w2.cell? ⟨w.heap.size,0,none⟩=some (.int .i64 0):=Za hz2 0
      have cz1:w2.cell? ⟨w.heap.size,1,none⟩=some (.int .i64 0):=Za hz2 1
      have fz0:=Zd hz2 0
      have fz1:=Zd hz2 1
      have HB2:=hid ((HB1.out.alloc HB1.out.size _).trans (hb2.mono (Nat.le_trans HB1.out.size (by simp))))
      have hs2:w.heap.size+1≤w2.heap.size:=by have:=hb2.size;simp at this;omega
      clear hb2 hf2
      have d0:=(HB2.out.cell (p:=⟨bd,0,none⟩) hlt.1).trans h0
      have dc1:=(HB2.out.cell (p:=⟨bn,n*4+1,none⟩) hlt.2).trans hc1
      have HZ:=hid hz2
      clear hz2 HQ2 HB1
      rw[h1b])
   | (go_at_call 115;refine(XJ t _ HT.out l HC.out).mono ?_;rintro e w3 ⟨v3,rfl,ho3,hb3⟩
      obtain⟨a3,c3,hv3⟩:=Zo ho3
      subst hv3
      have hz3:w3.heap[w.heap.size]?=some (.cells #[.int .i64 0,.int .i64 0] 32 (0,0)):=(hb3.block _ (Zc HZ.out)).trans HZ.out
      have cz0':w3.cell? ⟨w.heap.size,0,none⟩=some (.int .i64 0):=Za hz3 0
      have cz1':w3.cell? ⟨w.heap.size,1,none⟩=some (.int .i64 0):=Za hz3 1
      have fz0':=Zd hz3 0
      have fz1':=Zd hz3 1
      have hs3:w.heap.size+1≤w3.heap.size:=by have:=hb3.size;omega
      have HB3:=hid (HB2.out.trans (hb3.mono HB2.out.size))
      have HZ3:=hid hz3
      clear hb3 hz3 ho3)
   | (go_at_call 48;refine(ZK _ _ _).mono ?_;rintro e w5 ⟨rfl,hw5⟩
      have hz5:w5.heap[w.heap.size]?=some (.cells #[.int .i64 0,.int .i64 0] 32 (0,0)):=by rw[hw5];exact(Below.heap_alloc _ _ _ (Zc HZ3.out)).trans HZ3.out
      have cz5:w5.cell? ⟨w.heap.size,0,none⟩=some (.int .i64 0):=Za hz5 0
      have cz6:w5.cell? ⟨w.heap.size,1,none⟩=some (.int .i64 0):=Za hz5 1
      have fz5:=Zd hz5 0
      have fz6:=Zd hz5 1
      have hs5:=Zc hz5
      have HB5:Hid (Below w.heap.size w w5):=by rw[hw5];exact HB3.out.alloc HB3.out.size _
      clear hz5 hw5))
   clear CF h0 hc1 d0 dc1 cz0 cz1 fz0 fz1 cz0' cz1' fz0' fz1' cf0 cf1
   refine bodyPost_ret (v:=Zi n 6) (by simp[results,Tryz.results78,go_sem,cz5,cz6,fz5,fz6,hs5]) rfl ?_
   exact⟨rfl,(HB5.out.setCell (p:=⟨w.heap.size,0,none⟩) (Nat.le_refl _) _).setCell (p:=⟨w.heap.size,1,none⟩) (Nat.le_refl _) _⟩
 · have hcd:decide ((x.cs.length:Int) - k<c)=false:=decide_eq_false hcm
   have hL:(30:Int)<(x.cs.length:Int) - c+l.length:=by omega
   have hLd:decide ((30:Int)<(x.cs.length:Int) - c+l.length)=true:=decide_eq_true hL
   have hcI:c≤30:=by omega
   clear hD
   go_enter Tryz.func78,Tryz.ntmps78
   go_wp2_with (first
   | (go_at_call 123;refine CF.out.mono ?_;rintro e w1 ⟨rfl,hb1⟩
      have hq2:w1.heap[w.heap.size]?=some (.cells #[.int .i64 0,.int .i64 0] 32 (0,0)):=by
       rw[hb1.block _ (by simp)]
       exact heap_alloc_new w _
      have hs1:w.heap.size+1≤w1.heap.size:=by have:=hb1.size;simpa using this
      have HB1:=hid (HTB.out.trans (hb1.mono HTB.out.size))
      have HQ2:=hid hq2
      clear hb1 hq2)
   | (go_at_call 124;refine(Zy 0 0 _).mono ?_;rintro e w2 ⟨rfl,hb2⟩
      have hf2:w2.heap[w1.heap.size]?=some (.cells #[.int .i64 0,.int .i64 0] 32 (0,0)):=(hb2.block _ (by simp)).trans (heap_alloc_new w1 _)
      have hz2:w2.heap[w.heap.size]?=some (.cells #[.int .i64 0,.int .i64 0] 32 (0,0)) :=
       (hb2.block _ (by simp;omega)).trans ((((Below.refl _ w1).alloc (Nat.le_refl _) _).block _ (by omega)).trans HQ2.out)
      have cf0:w2.cell? ⟨w1.heap.size,0,none⟩=some (.int .i64 0):=Za hf2 0
      have cf1:w2.cell? ⟨w1.heap.size,1,none⟩=some (.int .i64 0):=Za hf2 1
      have cz0:w2.cell? ⟨w.heap.size,0,none⟩=some (.int .i64 0):=Za hz2 0
      have cz1:w2.cell? ⟨w.heap.size,1,none⟩=some (.int .i64 0):=Za hz2 1
      have fz0:=Zd hz2 0
      have fz1:=Zd hz2 1
      have HB2:=hid ((HB1.out.alloc HB1.out.size _).trans (hb2.mono (Nat.le_trans HB1.out.size (by simp))))
      have hs2:w.heap.size+1≤w2.heap.size:=by have:=hb2.size;simp at this;omega
      clear hb2 hf2
      have d0:=(HB2.out.cell (p:=⟨bd,0,none⟩) hlt.1).trans h0
      have dc1:=(HB2.out.cell (p:=⟨bn,n*4+1,none⟩) hlt.2).trans hc1
      have HZ:=hid hz2
      clear hz2 HQ2 HB1
      rw[h1b])
   | (go_at_call 115;refine(XJ t _ HT.out l HC.out).mono ?_;rintro e w3 ⟨v3,rfl,ho3,hb3⟩
      obtain⟨a3,c3,hv3⟩:=Zo ho3
      subst hv3
      have hz3:w3.heap[w.heap.size]?=some (.cells #[.int .i64 0,.int .i64 0] 32 (0,0)):=(hb3.block _ (Zc HZ.out)).trans HZ.out
      have cz0':w3.cell? ⟨w.heap.size,0,none⟩=some (.int .i64 0):=Za hz3 0
      have cz1':w3.cell? ⟨w.heap.size,1,none⟩=some (.int .i64 0):=Za hz3 1
      have fz0':=Zd hz3 0
      have fz1':=Zd hz3 1
      have hs3:w.heap.size+1≤w3.heap.size:=by have:=hb3.size;omega
      have HB3:=hid (HB2.out.trans (hb3.mono HB2.out.size))
      have HZ3:=hid hz3
      clear hb3 hz3 ho3)
   | (go_at_call 48;refine(ZK _ _ _).mono ?_;rintro e w5 ⟨rfl,hw5⟩
      have hz5:w5.heap[w.heap.size]?=some (.cells #[.int .i64 0,.int .i64 0] 32 (0,0)):=by rw[hw5];exact(Below.heap_alloc _ _ _ (Zc HZ3.out)).trans HZ3.out
      have cz5:w5.cell? ⟨w.heap.size,0,none⟩=some (.int .i64 0):=Za hz5 0
      have cz6:w5.cell? ⟨w.heap.size,1,none⟩=some (.int .i64 0):=Za hz5 1
      have fz5:=Zd hz5 0
      have fz6:=Zd hz5 1
      have hs5:=Zc hz5
      have HB5:Hid (Below w.heap.size w w5):=by rw[hw5];exact HB3.out.alloc HB3.out.size _
      clear hz5 hw5))
   clear CF h0 hc1 d0 dc1 cz0 cz1 fz0 fz1 cz0' cz1' fz0' fz1' cf0 cf1
   refine bodyPost_ret (v:=Zi n 6) (by simp[results,Tryz.results78,go_sem,cz5,cz6,fz5,fz6,hs5]) rfl ?_
   exact⟨rfl,(HB5.out.setCell (p:=⟨w.heap.size,0,none⟩) (Nat.le_refl _) _).setCell (p:=⟨w.heap.size,1,none⟩) (Nat.le_refl _) _⟩
end
end
section
open Go.RowKit
theorem ZhA {P:Program} {row:String} {args:Array Value} {w:World} {R:Value→World→Prop} (l n:Nat) (h:Rows P row args w R):RowsIn (Fence.wide.inRound l) n P row args w R :=
 fun c cs _=>let ⟨v,w',r,s⟩:=h c cs;⟨v,w',r,stepsIn_wide.2 s⟩
theorem ZiS {P:Program} {o:Oper} {a:Act} {K K':Act→World→Prop} {Q:Exit→Act→World→Prop} (l n:Nat) (hK:∀ a w,K a w→K' a w) (r:Result Next) (h:o.upon P a K Q r):o.uponIn (Fence.wide.inRound l) n P a K' Q r:=by
 cases r with
 | ok x w' =>
   cases x with
   | value v=>exact hK _ _ h
   | skip=>exact hK _ _ h
   | defer d=>exact hK _ _ h
   | enter f args =>
     refine⟨fun e=>(by simp[Fence.wide,Fence.inRound] at e),CallsIn.inRound l ((callsIn_wide.2 h).mono ?_)⟩
     intro e w'' he
     cases e with
     | returned v=>exact hK _ _ he
     | panicked c=>exact he
     | outgrown=>exact he
   | row r args=>exact⟨fun e=>(by simp[Fence.wide,Fence.inRound] at e),(ZhA l _ h).mono (fun _ _ he=>hK _ _ he)⟩
   | _=>exact h.elim
 | halt x w' =>
   cases x with
   | panic v=>exact h
   | _=>exact h.elim
def ZbS (ops:Array Oper):Bool:=ops.all fun o=>match o.op with | .defer _=>false | _=>true
theorem ZgH {ops:Array Oper} (h:ZbS ops=true) {i:Nat} {o:Oper} (ho:ops[i]?=some o):∀ c,o.op≠.defer c:=by
 intro c e
 have h1:=Array.all_eq_true'.1 h o (Array.mem_of_getElem? ho)
 rw[e] at h1
 simp at h1
section
variable {P:Program} {md:Region.Mode} {ops:Array Oper} {Q:Exit→Act→World→Prop}
theorem Zag (l n:Nat) (hd:ZbS ops=true) (hQ:¬ LetsOut Q):∀ (fuel:Nat) (listed:Array Bool) (a:Act) (w:World),wpAny P md ops Q fuel listed a w→wpAnyIn (Fence.wide.inRound l) n P md ops Q fuel listed a w
 | 0,_,_,_,h=>h
 | fuel+1,listed,a,w,h=>by
   refine⟨h.1,fun i hi=>?_⟩
   have h1:=h.2 i hi
   unfold wpOp at h1
   unfold wpOpIn
   cases ho:ops[i]? with
   | none =>
     rw[ho] at h1
     exact Zag l n hd hQ fuel _ _ _ h1
   | some o =>
     rw[ho] at h1
     simp only at h1 ⊢
     split
     · rename_i hw
       rw[if_pos hw] at h1
       rcases h1 with h1|h1
       · refine⟨fun _ _=>trivial,?_⟩
         have e:o.semAt (Fence.wide.inRound l).round a.eval=execOp a.eval o:=Oper.semAt_some l a.eval o (ZgH hd ho)
         rw[e]
         exact ZiS l n (fun a w h=>Zag l n hd hQ fuel _ a w h) _ h1
       · exact absurd h1.2 hQ
     · rename_i hw
       rw[if_neg hw] at h1
       exact⟨fun _ _=>trivial,Zag l n hd hQ fuel _ _ _ h1⟩
theorem Zd5 {id l n:Nat} {a:Act} {w:World} (S:World→Prop) (hm:P.follows .mixedOrders=true) (hd:ZbS ops=true) (hQ:¬ LetsOut Q) (hS:S w.drew)
 (h:S w.drew→wpAnyH P .any ops Q S ops.size (Array.replicate ops.size false) a w.drew):(Code.region id ops true).wpIn (Fence.wide.inRound l) n P Q a w :=
 wpIn_region_any hm (Zag l n hd hQ _ _ _ _ (wpAny_of_held _ _ _ _ (h hS)))
theorem ZQ {S:World→Prop} {i:Nat} {oi:Oper} (d:Tmp) {v:Value} {fuel:Nat} {listed:Array Bool} {T:Array Value} {D:List Deferred} {w:World} (hi:ops[i]?=some oi) (hdst:oi.dst=some d)
 (hs:Region.noSelect ops=true) (hf:Region.free md ops listed i=true) (hr:(Region.ready md ops listed).contains i=true)
 (hQ:∀ c a w,Q (.panic c) (a.put oi.dst v) w→Q (.panic c) a w) (hy:YieldsIf P ops S oi v (Act.mk T D)) (hS:S w)
 (h:wpAnyH P md ops Q S fuel (listed.setIfInBounds i true) (Act.mk (T.setIfInBounds d v) D) w):wpAnyH P md ops Q S (fuel+1) listed (Act.mk T D) w :=
 wpAnyH_take hi hs hf hr hQ hy hS (by rw[hdst];exact h)
end
end
end Go.Proofs.YtabogkonklplcaaGreatDoor
