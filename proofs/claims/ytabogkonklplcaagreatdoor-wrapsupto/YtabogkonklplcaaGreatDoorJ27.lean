import Derived.Test.YtabogkonklplcaaGreatDoorJ19
import Derived.Deep.QuietTactic
import Derived.BigQuiet
import Derived.Test.YtabogkonklplcaaGreatDoorJ26
import Derived.Test.YtabogkonklplcaaGreatDoorJ23
namespace Go.Proofs.YtabogkonklplcaaGreatDoor
set_option linter.unusedSimpArgs false
set_option linter.unusedVariables false
set_option maxRecDepth 20000
set_option maxHeartbeats 8000000
section
open Go.RowKit
def cmpB:Bool→Bool→Int
 | true,_=>-1
 | false,true=>1
 | false,false=>0
section
variable {w:World} {F:Nat→Prop} {bd bn cap:Nat} {rn:List RN} {rv:Value} {s:List Nd} {rs:List Sp}
theorem Zfo (wf:WF s) {h:Nat→Nat} {B:Nat} (u:Up s h B) (hD:Zf w F bd bn cap rn rv s rs) (n k n2 k2:Nat) (tf:Nat→Nat) (htf:∀ m,m < s.length→Zm s m (tf m)) (hn:n < s.length) (hn2:n2 < s.length) (hf:Zs s n k=(0,0)) (hg:Zs s n2 k2=(0,0)) (he:tf n=tf n2)
 (qa qb:Int) (ha:ZJ (plF s (B+1) (tf n)) (n,k) qa) (hb:ZJ (plF s (B+1) (tf n)) (n2,k2) qb) (x y:Bool) (hx:decide (qa<qb)=x) (hy:decide (qb<qa)=y) :
 Calls Tryz.prog 80 #[.pointer (some ⟨bd,0,none⟩),.agg #[.int .i64 n,.int .i64 k],.agg #[.int .i64 n2,.int .i64 k2]] w fun e w'=>e=.returned (.tuple #[.int .i64 (cmpB x y),Zi 0 0])∧Below w.heap.size w w':=by
 have CA:=hid (fun w' (hB:Below w.heap.size w w')=>X3 wf u (hD.below hB) hn (htf n hn) ha hb)
 have CB:=hid (fun w' (hB:Below w.heap.size w w')=>X3 wf u (hD.below hB) hn2 (htf n2 hn2) (by rw[← he];exact hb) (by rw[← he];exact ha))
 rw[hx] at CA
 rw[hy] at CB
 have CF:=hid (Yz (hD.below (XZ w n k n2 k2)) n k)
 rw[hf] at CF
 have CG:=hid (fun w' (hb:Below w.heap.size w w')=>Yz (hD.below hb) n2 k2)
 rw[hg] at CG
 have CT:=hid (fun w' (hb:Below w.heap.size w w') m (hm:m<s.length) q=>XB (w:=w'.drewN q) wf (hD.below (Zj hb q)) (htf m hm) hm)
 have heI:((tf n:Int) != (tf n2:Int))=false:=by simp[he]
 clear hD wf htf u ha hb hx hy
 go_enter Tryz.func80,Tryz.ntmps80
 go_wp2_with (first
  | (go_at_call 127;refine(CG.out w2 HB2.out).mono ?_;rintro e w3 ⟨rfl,hb3⟩
     have hc3:=HC2.out.below hb3
     obtain⟨-,-,-,⟨cf0,cf1⟩⟩:=hc3.cells
     obtain⟨-,⟨ff0,ff1⟩⟩:=hc3.frozen
     have HC3:=hid hc3
     have HB3:=hid (HB2.out.trans (hb3.mono HB2.out.size))
     clear hc3 hb3)
  | (go_at_call 127;refine CF.out.mono ?_;rintro e w1 ⟨rfl,hb1⟩
     have HB1:=hid hb1
     clear hb1)
  | (go_at_call 124;have hc4:=HC3.out.put 0 0;refine(Zy 0 0 _).mono ?_;rintro e w4 ⟨rfl,hb4⟩
     have hc5:=hc4.below hb4
     obtain⟨⟨da0,da1⟩,⟨db0,db1⟩,⟨cz0,cz1⟩,⟨cg0,cg1⟩⟩:=hc5.cells
     obtain⟨⟨fz0,fz1⟩,-⟩:=hc5.frozen
     have HC5:=hid hc5
     have HB5:=hid (((HB3.out.setCell (p:=⟨w1.heap.size,0,none⟩) (by have:=HC3.out.gt;show w.heap.size≤w1.heap.size;omega) (.int .i64 0)).setCell (p:=⟨w1.heap.size,1,none⟩) (by have:=HC3.out.gt;show w.heap.size≤w1.heap.size;omega) (.int .i64 0)).trans (hb4.mono (by have:=HB3.out.size;simpa using this)))
     clear hc4 hc5 hb4)
  | (go_at_call 124;refine(Zy 0 0 _).mono ?_;rintro e w2 ⟨rfl,hb2⟩
     obtain⟨hc2,hB2⟩:=Cmp.first HB1.out hb2
     obtain⟨⟨ca0,ca1⟩,⟨cb0,cb1⟩,-,-⟩:=hc2.cells
     have HC2:=hid hc2
     have HB2:=hid hB2
     clear hb2 hc2 hB2))
 go_quiet ((go_at_call 128;exact Calls.quiet_of_same (CT.out w4 HB5.out _ (by first|exact hn|exact hn2) _)))
 have HB5q:=hid (Zj HB5.out nq)
 have HC5q:=hid (HC5.out.below (Zj (Below.refl _ w4) nq))
 clear HB5
 cases x <;> cases y
 all_goals
  go_wp2_with (first
   | (go_at_call 129;refine(CB.out w6 HB6.out).mono ?_;rintro e w7 ⟨rfl,hb7⟩
      have hc7:=HC6.out.below hb7
      obtain⟨-,-,⟨kz0,kz1⟩,-⟩:=hc7.cells
      obtain⟨⟨kf0,kf1⟩,-⟩:=hc7.frozen
      have HB7:=hid (HB6.out.trans (hb7.mono HB6.out.size))
      clear hb7 hc7)
   | (go_at_call 129;refine(CA.out _ HB5q.out).mono ?_;rintro e w6 ⟨rfl,hb6⟩
      have hc6:=HC5q.out.below hb6
      obtain⟨⟨ga0,ga1⟩,⟨gb0,gb1⟩,-,-⟩:=hc6.cells
      have HC6:=hid hc6
      have HB6:=hid (HB5q.out.trans (hb6.mono HB5q.out.size))
      clear hb6 hc6))
  first
   | (refine bodyPost_ret (v:=.tuple #[.int .i64 0,Zi 0 0]) (by simp[results,Tryz.results80,go_sem, *]) rfl ?_;exact⟨rfl,(HB7.out.setCell (p:=⟨w.heap.size+1+1,0,none⟩) (by show w.heap.size≤w.heap.size+1+1;omega) _).setCell (p:=⟨w.heap.size+1+1,1,none⟩) (by show w.heap.size≤w.heap.size+1+1;omega) _⟩)
   | (refine bodyPost_ret (v:=.tuple #[.int .i64 1,Zi 0 0]) (by simp[results,Tryz.results80,go_sem, *]) rfl ?_;exact⟨rfl,(HB7.out.setCell (p:=⟨w.heap.size+1+1,0,none⟩) (by show w.heap.size≤w.heap.size+1+1;omega) _).setCell (p:=⟨w.heap.size+1+1,1,none⟩) (by show w.heap.size≤w.heap.size+1+1;omega) _⟩)
   | (refine bodyPost_ret (v:=.tuple #[.int .i64 (-1),Zi 0 0]) (by simp[results,Tryz.results80,go_sem, *]) rfl ?_;exact⟨rfl,(HB7.out.setCell (p:=⟨w.heap.size+1+1,0,none⟩) (by show w.heap.size≤w.heap.size+1+1;omega) _).setCell (p:=⟨w.heap.size+1+1,1,none⟩) (by show w.heap.size≤w.heap.size+1+1;omega) _⟩)
end
end
section
open Go.RowKit
structure Bx (w:World) (W fb:Nat) (p0 p1 f0 f1:Int):Prop where
 p:w.heap[W]?=some (.cells #[.int .i64 p0,.int .i64 p1] 37 (0,0))
 z:w.heap[W+1]?=some (.cells #[.int .i64 0,.int .i64 0] 32 (0,0))
 f:w.heap[fb]?=some (.cells #[.int .i64 f0,.int .i64 f1] 32 (0,0))
 gt:W+1<fb
section
variable {w w':World} {W fb:Nat} {p0 p1 f0 f1:Int}
theorem Bx.below (h:Bx w W fb p0 p1 f0 f1) (hb:Below w.heap.size w w'):Bx w' W fb p0 p1 f0 f1 :=
 ⟨(hb.block _ (Zc h.p)).trans h.p,(hb.block _ (Zc h.z)).trans h.z,(hb.block _ (Zc h.f)).trans h.f,h.gt⟩
theorem Bx.put (h:Bx w W fb p0 p1 f0 f1) (g0 g1:Int):Bx ((w.setCell ⟨fb,0,none⟩ (.int .i64 g0)).setCell ⟨fb,1,none⟩ (.int .i64 g1)) W fb p0 p1 g0 g1:=by
 have hg:=h.gt
 have hk:∀ i,i≠fb→((w.setCell ⟨fb,0,none⟩ (.int .i64 g0)).setCell ⟨fb,1,none⟩ (.int .i64 g1)).heap[i]?=w.heap[i]?:=fun i hi=>by
  rw[Below.heap_setCell _ _ _ _ (by simpa using hi),Below.heap_setCell _ _ _ _ (by simpa using hi)]
 refine⟨(hk _ (by omega)).trans h.p,(hk _ (by omega)).trans h.z,?_,hg⟩
 rw[heap_setCell_same _ fb 1 _ _ _ (heap_setCell_same w fb 0 _ _ _ h.f)]
 simp
theorem Bx.keeps (h:Bx w W fb p0 p1 f0 f1) {sb:Nat} (hk:Zb (fun b=>b=sb) w w') (hf:fb < sb):Bx w' W fb p0 p1 f0 f1:=by
 have hg:=h.gt
 exact⟨(hk.block _ (Zc h.p) (by omega)).trans h.p,(hk.block _ (Zc h.z) (by omega)).trans h.z,(hk.block _ (Zc h.f) (by omega)).trans h.f,hg⟩
theorem Bx.above (h:Bx w W fb p0 p1 f0 f1) {G:Nat→Prop} (hk:Zb G w w') (hG:∀ b,W≤b→¬ G b):Bx w' W fb p0 p1 f0 f1:=by
 have hg:=h.gt
 exact⟨(hk.block _ (Zc h.p) (hG _ (Nat.le_refl _))).trans h.p,(hk.block _ (Zc h.z) (hG _ (Nat.le_succ _))).trans h.z,(hk.block _ (Zc h.f) (hG _ (by omega))).trans h.f,hg⟩
theorem Bx.cells (h:Bx w W fb p0 p1 f0 f1) :
 (w.cell? ⟨W,0,none⟩=some (.int .i64 p0)∧w.cell? ⟨W,1,none⟩=some (.int .i64 p1)) ∧
 (w.cell? ⟨W+1,0,none⟩=some (.int .i64 0)∧w.cell? ⟨W+1,1,none⟩=some (.int .i64 0))∧(w.cell? ⟨fb,0,none⟩=some (.int .i64 f0)∧w.cell? ⟨fb,1,none⟩=some (.int .i64 f1)) :=
 ⟨⟨Za h.p 0,Za h.p 1⟩,⟨Za h.z 0,Za h.z 1⟩,⟨Za h.f 0,Za h.f 1⟩⟩
theorem Bx.frozen (h:Bx w W fb p0 p1 f0 f1) :
 (w.frozen? ⟨W+1,0,none⟩=false∧w.frozen? ⟨W+1,1,none⟩=false)∧(w.frozen? ⟨fb,0,none⟩=false∧w.frozen? ⟨fb,1,none⟩=false) :=
 ⟨⟨Zd h.z 0,Zd h.z 1⟩,⟨Zd h.f 0,Zd h.f 1⟩⟩
theorem Bx.first {w1 w2:World} (hb1:Below (pf w p0 p1).heap.size (pf w p0 p1) w1) (hb2:Below (w1.alloc (.cells #[.int .i64 f0,.int .i64 f1] 32)).heap.size (w1.alloc (.cells #[.int .i64 f0,.int .i64 f1] 32)) w2) :
 Bx w2 w.heap.size w1.heap.size p0 p1 f0 f1∧Below w.heap.size w w2:=by
 have hz:=hb1.size
 simp only[World.size_alloc] at hz
 have a0:(pf w p0 p1).heap[w.heap.size]?=some (.cells #[.int .i64 p0,.int .i64 p1] 37 (0,0)):=(Below.heap_alloc _ _ _ (by simp)).trans (heap_alloc_new w _)
 have a1:(pf w p0 p1).heap[w.heap.size+1]?=some (.cells #[.int .i64 0,.int .i64 0] 32 (0,0)):=by
  have:=heap_alloc_new (w.alloc (.cells #[.int .i64 p0,.int .i64 p1] 37)) (.cells #[.int .i64 0,.int .i64 0] 32)
  simpa using this
 have b0:=(hb1.block _ (Zc a0)).trans a0
 have b1:=(hb1.block _ (Zc a1)).trans a1
 have hB1:Below w.heap.size w w1:=(((Below.refl _ w).alloc (Nat.le_refl _) _).alloc (by simp) _).trans (hb1.mono (by simp only[World.size_alloc];omega))
 refine⟨⟨?_,?_,?_,by omega⟩,(hB1.alloc hB1.size _).trans (hb2.mono (by simp only[World.size_alloc];have:=hB1.size;omega))⟩
 · exact(hb2.block _ (by simp only[World.size_alloc];omega)).trans ((Below.heap_alloc _ _ _ (Zc b0)).trans b0)
 · exact(hb2.block _ (by simp only[World.size_alloc];omega)).trans ((Below.heap_alloc _ _ _ (Zc b1)).trans b1)
 · exact(hb2.block _ (by simp only[World.size_alloc];omega)).trans (heap_alloc_new w1 _)
end
section
variable {w:World} {F:Nat→Prop} {bd bn cap:Nat} {rn:List RN} {rv:Value} {s:List Nd} {rs:List Sp}
theorem Zf.setAll (h:Zf w F bd bn cap rn rv s rs) {q g c:Nat} (hrv:rv=.slice (some ⟨g,0,none⟩) rs.length c) {r:Sp} (hr:rs[q]?=some r) (v0 v1 v2 v3:Int) :
 Zf ((((w.setCell ⟨g,q*4,none⟩ (.int .i64 v0)).setCell ⟨g,q*4+1,none⟩ (.int .i64 v1)).setCell ⟨g,q*4+2,none⟩ (.int .i64 v2)).setCell ⟨g,q*4+3,none⟩ (.int .i64 v3)) F bd bn cap rn rv s (rs.set q ⟨v0,v1,v2,v3⟩):=by
 have hq:=(List.getElem?_eq_some_iff.1 hr).1
 have d0:=h.setSp hrv hr (r':=⟨v0,r.b,r.c,r.d⟩) 0 (by omega) (.int .i64 v0) rfl
 have d1:=d0.setSp (by rw[List.length_set];exact hrv) (List.getElem?_set_self hq) (r':=⟨v0,v1,r.c,r.d⟩) 1 (by omega) (.int .i64 v1) rfl
 rw[List.set_set] at d1
 have d2:=d1.setSp (by rw[List.length_set];exact hrv) (List.getElem?_set_self hq) (r':=⟨v0,v1,v2,r.d⟩) 2 (by omega) (.int .i64 v2) rfl
 rw[List.set_set] at d2
 have d3:=d2.setSp (by rw[List.length_set];exact hrv) (List.getElem?_set_self hq) (r':=⟨v0,v1,v2,v3⟩) 3 (by omega) (.int .i64 v3) rfl
 rw[List.set_set] at d3
 exact d3
theorem Zeb (hD:Zf w F bd bn cap rn rv s rs) (r p0 p1:Int) (b:Bool) (h:r < 0∨(rs.length:Int)≤r) :
 Calls Tryz.prog 130 #[.pointer (some ⟨bd,0,none⟩),.int .i64 r,.agg #[.int .i64 p0,.int .i64 p1],.bool b] w fun e w'=>e=.returned (Zi r 8)∧Below w.heap.size w w':=by
 have CR:=hid (ZaU (hD.below (YT w p0 p1 0)) r h)
 have h1b:((8:Int) == 0)=false:=rfl
 clear hD
 go_enter Tryz.func130,Tryz.ntmps130
 go_wp2_with (first
  | (go_at_call 131;refine CR.out.mono ?_;rintro e w1 ⟨rfl,hb1⟩
     have HB1:=hid hb1
     clear hb1)
  | (go_at_call 124;refine(Zy r 8 _).mono ?_;rintro e w2 ⟨rfl,hb2⟩
     obtain⟨hc2,hB2⟩:=Bx.first HB1.out hb2
     obtain⟨-,⟨z0,z1⟩,⟨f0,f1⟩⟩:=hc2.cells
     obtain⟨⟨fz0,fz1⟩,-⟩:=hc2.frozen
     have hgt:=hc2.gt
     have hzl:=Zc hc2.z
     have HB2:=hid hB2
     clear hb2 hc2 hB2
     rw[h1b]))
 refine bodyPost_ret (v:=Zi r 8) (by simp[results,Tryz.results130,go_sem, *]) rfl ?_
 exact⟨rfl,(HB2.out.setCell (p:=⟨w.heap.size+1,0,none⟩) (Nat.le_succ _) _).setCell (p:=⟨w.heap.size+1,1,none⟩) (Nat.le_succ _) _⟩
theorem Zec (hD:Zf w F bd bn cap rn rv s rs) (r:Nat) (hr:r < rs.length) (p0 p1 f0 f1:Int) (b:Bool) (hf:Zs s p0 p1=(f0,f1)) (h1:f1≠0) :
 Calls Tryz.prog 130 #[.pointer (some ⟨bd,0,none⟩),.int .i64 (r:Int),.agg #[.int .i64 p0,.int .i64 p1],.bool b] w fun e w'=>e=.returned (Zi f0 f1)∧Below w.heap.size w w':=by
 have CR:=hid (YU (hD.below (YT w p0 p1 0)) r hr)
 have h1b:((0:Int) == 0)=true:=rfl
 have h2b:(f1 == 0)=false:=by simpa using h1
 have CG:=hid (fun w' (hb:Below w.heap.size w w')=>Yz (hD.below hb) p0 p1)
 rw[hf] at CG
 clear hD
 go_enter Tryz.func130,Tryz.ntmps130
 go_wp2_with (first
  | (go_at_call 131;refine CR.out.mono ?_;rintro e w1 ⟨rfl,hb1⟩
     have HB1:=hid hb1
     clear hb1)
  | (go_at_call 127;refine(CG.out w2 HB2.out).mono ?_;rintro e w3 ⟨rfl,hb3⟩
     have hc3:=HC2.out.below hb3
     obtain⟨-,-,⟨g0,g1⟩⟩:=hc3.cells
     obtain⟨-,⟨ff0,ff1⟩⟩:=hc3.frozen
     have HC3:=hid hc3
     have HB3:=hid (HB2.out.trans (hb3.mono HB2.out.size))
     clear hc3 hb3)
  | (go_at_call 124;have hc4:=HC3.out.put f0 f1;refine(Zy f0 f1 _).mono ?_;rintro e w4 ⟨rfl,hb4⟩
     have hc5:=hc4.below hb4
     obtain⟨⟨pa0,pa1⟩,⟨cz0,cz1⟩,⟨cg0,cg1⟩⟩:=hc5.cells
     obtain⟨⟨fz0,fz1⟩,-⟩:=hc5.frozen
     have hzl:=Zc hc5.z
     have hpl4:=Zc hc5.p
     have hfl4:=Zc hc5.f
     have HC5:=hid hc5
     have HB5:=hid (((HB3.out.setCell (p:=⟨w1.heap.size,0,none⟩) (by have:=HC3.out.gt;show w.heap.size≤w1.heap.size;omega) (.int .i64 f0)).setCell (p:=⟨w1.heap.size,1,none⟩) (by have:=HC3.out.gt;show w.heap.size≤w1.heap.size;omega) (.int .i64 f1)).trans (hb4.mono (by have:=HB3.out.size;simpa using this)))
     clear hc4 hc5 hb4
     rw[h2b])
  | (go_at_call 124;refine(Zy 0 0 _).mono ?_;rintro e w2 ⟨rfl,hb2⟩
     obtain⟨hc2,hB2⟩:=Bx.first HB1.out hb2
     obtain⟨⟨a0,a1⟩,-,⟨cf0,cf1⟩⟩:=hc2.cells
     have hgt:=hc2.gt
     have hpl:=Zc hc2.p
     have HC2:=hid hc2
     have HB2:=hid hB2
     clear hb2 hc2 hB2
     rw[h1b]))
 refine bodyPost_ret (v:=Zi f0 f1) (by simp[results,Tryz.results130,go_sem, *]) rfl ?_
 exact⟨rfl,(HB5.out.setCell (p:=⟨w.heap.size+1,0,none⟩) (Nat.le_succ _) _).setCell (p:=⟨w.heap.size+1,1,none⟩) (Nat.le_succ _) _⟩
theorem rset_t1 (wf:WF s) {h:Nat→Nat} {B:Nat} (u:Up s h B) (hD:Zf w F bd bn cap rn rv s rs) (r:Nat) (x:Sp) (hx:rs[r]?=some x) (n k n2 k2:Nat) (hx2:x.c=(n2:Int)) (hx3:x.d=(k2:Int)) (tf:Nat→Nat) (htf:∀ m,m < s.length→Zm s m (tf m)) (hn:n < s.length) (hn2:n2 < s.length) (hf:Zs s n k=(0,0)) (hne:tf n≠tf n2) :
 Calls Tryz.prog 130 #[.pointer (some ⟨bd,0,none⟩),.int .i64 (r:Int),.agg #[.int .i64 (n:Int),.int .i64 (k:Int)],.bool true] w fun e w'=>e=.returned (Zi 0 0)∧Zb F w w'∧RDoc w' (fun b=>F b∨w.heap.size≤b) bd s (rs.set r ⟨n,k,n,k⟩):=by
 have hr:r<rs.length:=(List.getElem?_eq_some_iff.1 hx).1
 have CR:=hid (YU (hD.below (YT w n k 0)) r hr)
 have h1b:((0:Int) == 0)=true:=rfl
 have CG:=hid (fun w' (hb:Below w.heap.size w w')=>Yz (hD.below hb) n k)
 rw[hf] at CG
 have CT:=hid (fun w' (hb:Below w.heap.size w w') m (hm:m<s.length) q=>XB (w:=w'.drewN q) wf (hD.below (Zj hb q)) (htf m hm) hm)
 have hneI:¬ (tf n:Int)=(tf n2:Int):=fun e=>hne (by omega)
 have heI:((tf n:Int) != (tf n2:Int))=true:=by simpa using hneI
 obtain⟨g,c,hrve,hgl,hFg,hgd,hgn,e0,e1,e2,e3,hfr⟩:=hD.spanCells hx
 have hdv:=hD.rangesCell
 rw[hrve] at hdv
 have hlt':=hD.lt
 have HFR:=hid hfr
 have HX:=hid hx
 have HD:=hid hD
 have HRV:=hid hrve
 have HFG:=hid hFg
 rw[hx2] at e2;rw[hx3] at e3
 clear hD wf htf u hfr hx hrve
 go_enter Tryz.func130,Tryz.ntmps130
 go_wp2_with (first
  | (go_at_call 131;refine CR.out.mono ?_;rintro e w1 ⟨rfl,hb1⟩
     have HB1:=hid hb1
     clear hb1)
  | (go_at_call 127;refine(CG.out w2 HB2.out).mono ?_;rintro e w3 ⟨rfl,hb3⟩
     have hc3:=HC2.out.below hb3
     obtain⟨-,-,⟨g0,g1⟩⟩:=hc3.cells
     obtain⟨-,⟨ff0,ff1⟩⟩:=hc3.frozen
     have HC3:=hid hc3
     have HB3:=hid (HB2.out.trans (hb3.mono HB2.out.size))
     clear hc3 hb3)
  | (go_at_call 124;have hc4:=HC3.out.put 0 0;refine(Zy 0 0 _).mono ?_;rintro e w4 ⟨rfl,hb4⟩
     have hc5:=hc4.below hb4
     obtain⟨⟨pa0,pa1⟩,⟨cz0,cz1⟩,⟨cg0,cg1⟩⟩:=hc5.cells
     obtain⟨⟨fz0,fz1⟩,-⟩:=hc5.frozen
     have hzl:=Zc hc5.z
     have hpl4:=Zc hc5.p
     have hfl4:=Zc hc5.f
     have HC5:=hid hc5
     have HB5:=hid (((HB3.out.setCell (p:=⟨w1.heap.size,0,none⟩) (by have:=HC3.out.gt;show w.heap.size≤w1.heap.size;omega) (.int .i64 0)).setCell (p:=⟨w1.heap.size,1,none⟩) (by have:=HC3.out.gt;show w.heap.size≤w1.heap.size;omega) (.int .i64 0)).trans (hb4.mono (by have:=HB3.out.size;simpa using this)))
     clear hc4 hc5 hb4
     have k1:=(HB5.out.cell (p:=⟨bd,1,none⟩) hlt'.1).trans hdv
     have m0:=(HB5.out.cell (p:=⟨g,r*4,none⟩) hgl).trans e0
     have m1:=(HB5.out.cell (p:=⟨g,r*4+1,none⟩) hgl).trans e1
     have m2:=(HB5.out.cell (p:=⟨g,r*4+2,none⟩) hgl).trans e2
     have m3:=(HB5.out.cell (p:=⟨g,r*4+3,none⟩) hgl).trans e3
     have hz4:=HB5.out.size
     have hbd4:bd<w4.heap.size:=by omega
     have hg4:g<w4.heap.size:=by omega
     have hnp:¬ w4.heap.size=w.heap.size:=by omega
     rw[h1b])
  | (go_at_call 124;refine(Zy 0 0 _).mono ?_;rintro e w2 ⟨rfl,hb2⟩
     obtain⟨hc2,hB2⟩:=Bx.first HB1.out hb2
     obtain⟨⟨a0,a1⟩,-,⟨cf0,cf1⟩⟩:=hc2.cells
     have hgt:=hc2.gt
     have hpl:=Zc hc2.p
     have HC2:=hid hc2
     have HB2:=hid hB2
     clear hb2 hc2 hB2
     rw[h1b]))
 have HB6:=hid (HB5.out.alloc HB5.out.size (.cells #[.int .i64 (n:Int),.int .i64 (k:Int),.int .i64 (n2:Int),.int .i64 (k2:Int)] 79))
 have hc6:=HC5.out.below ((Below.refl _ w4).alloc (Nat.le_refl _) (.cells #[.int .i64 (n:Int),.int .i64 (k:Int),.int .i64 (n2:Int),.int .i64 (k2:Int)] 79))
 have HC6:=hid hc6
 have hsA:=heap_alloc_new w4 (.cells #[.int .i64 (n:Int),.int .i64 (k:Int),.int .i64 (n2:Int),.int .i64 (k2:Int)] 79)
 have HSA:=hid hsA
 have sz0:=Za hsA 0
 have sz1:=Za hsA 1
 have sz2:=Za hsA 2
 have sz3:=Za hsA 3
 have sf0:=Zd hsA 0
 have sf1:=Zd hsA 1
 have sf2:=Zd hsA 2
 have sf3:=Zd hsA 3
 clear hsA hc6
 go_quiet ((go_at_call 128;exact Calls.quiet_of_same (CT.out _ HB6.out _ (by first|exact hn|exact hn2) _)))
 have HSB:Hid (((w4.alloc (.cells #[.int .i64 (n:Int),.int .i64 (k:Int),.int .i64 (n2:Int),.int .i64 (k2:Int)] 79)).drewN nq).heap[w4.heap.size]?=some (.cells #[.int .i64 (n:Int),.int .i64 (k:Int),.int .i64 (n2:Int),.int .i64 (k2:Int)] 79 (0,0))):=HSA.out
 go_wp2
 obtain⟨W7,hW7⟩:∃ W7,((((((w4.alloc (.cells #[.int .i64 (n:Int),.int .i64 (k:Int),.int .i64 (n2:Int),.int .i64 (k2:Int)] 79)).drewN nq).setCell ⟨w4.heap.size,0,none⟩ (.int .i64 (n:Int))).setCell ⟨w4.heap.size,1,none⟩ (.int .i64 (k:Int))).setCell ⟨w4.heap.size,2,none⟩ (.int .i64 (n:Int))).setCell ⟨w4.heap.size,3,none⟩ (.int .i64 (k:Int)))=W7:=⟨_,rfl⟩
 have hk7:Zb (fun b=>b=w4.heap.size) ((w4.alloc (.cells #[.int .i64 (n:Int),.int .i64 (k:Int),.int .i64 (n2:Int),.int .i64 (k2:Int)] 79)).drewN nq) W7:=by rw[← hW7];exact(((((Zb.refl (fun b=>b=w4.heap.size) ((w4.alloc (.cells #[.int .i64 (n:Int),.int .i64 (k:Int),.int .i64 (n2:Int),.int .i64 (k2:Int)] 79)).drewN nq)).setCell (p:=⟨w4.heap.size,0,none⟩) (.inl rfl) (.int .i64 (n:Int))).setCell (p:=⟨w4.heap.size,1,none⟩) (.inl rfl) (.int .i64 (k:Int))).setCell (p:=⟨w4.heap.size,2,none⟩) (.inl rfl) (.int .i64 (n:Int))).setCell (p:=⟨w4.heap.size,3,none⟩) (.inl rfl) (.int .i64 (k:Int)))
 have hB7:Below w.heap.size w W7:=by rw[← hW7];exact(((((Zj HB6.out nq).setCell (p:=⟨w4.heap.size,0,none⟩) hz4 (.int .i64 (n:Int))).setCell (p:=⟨w4.heap.size,1,none⟩) hz4 (.int .i64 (k:Int))).setCell (p:=⟨w4.heap.size,2,none⟩) hz4 (.int .i64 (n:Int))).setCell (p:=⟨w4.heap.size,3,none⟩) hz4 (.int .i64 (k:Int)))
 have hs7:W7.heap[w4.heap.size]?=some (.cells #[.int .i64 (n:Int),.int .i64 (k:Int),.int .i64 (n:Int),.int .i64 (k:Int)] 79 (0,0)):=by
  rw[← hW7,heap_setCell_same _ w4.heap.size 3 _ _ _ (heap_setCell_same _ w4.heap.size 2 _ _ _ (heap_setCell_same _ w4.heap.size 1 _ _ _ (heap_setCell_same _ w4.heap.size 0 _ _ _ HSB.out)))]
  simp
 have hc7:=(HC6.out.below (Zj (Below.refl _ _) nq)).keeps hk7 hfl4
 rw[hW7]
 obtain⟨-,⟨cy0,cy1⟩,⟨ch0,ch1⟩⟩:=hc7.cells
 obtain⟨⟨fy0,fy1⟩,-⟩:=hc7.frozen
 have hgt7:=hc7.gt
 have ty0:=Za hs7 0
 have ty1:=Za hs7 1
 have ty2:=Za hs7 2
 have ty3:=Za hs7 3
 obtain⟨q0,q1,q2,q3,qf⟩:=(HD.out.below hB7).spanAt HX.out HRV.out
 have qf0:=qf (r*4)
 have qf1:=qf (r*4+1)
 have qf2:=qf (r*4+2)
 have qf3:=qf (r*4+3)
 have k6:=(hB7.cell (p:=⟨bd,1,none⟩) hlt'.1).trans hdv
 have hgf:¬ w1.heap.size=g:=by omega
 have hgz:¬ w.heap.size+1=g:=by omega
 have hzf:¬ w.heap.size+1=w1.heap.size:=by omega
 have hzl7:=Zc hc7.z
 have HB7:=hid hB7
 have HG:=hid (And.intro hgl hgl)
 have HC7:=hid hc7
 clear hW7 hk7 hB7 hs7 hc7 qf sz0 sz1 sz2 sz3 sf0 sf1 sf2 sf3 pa0 pa1 cz0 cz1 cg0 cg1 fz0 fz1 m0 m1 m2 m3 k1 e0 e1 e2 e3 cy0 cy1 ch0 ch1 fy0 fy1
 go_region
 obtain⟨W8,hW8⟩:∃ W8,((((W7.setCell ⟨g,r*4,none⟩ (.int .i64 (n:Int))).setCell ⟨g,r*4+1,none⟩ (.int .i64 (k:Int))).setCell ⟨g,r*4+2,none⟩ (.int .i64 (n:Int))).setCell ⟨g,r*4+3,none⟩ (.int .i64 (k:Int))).drew=W8:=⟨_,rfl⟩
 have hD8:=((HD.out.narrow.below HB7.out).setAll HRV.out HX.out n k n k).drew
 have hk8:=(((((Zb.of_below (F:=F) HB7.out).setCell (p:=⟨g,r*4,none⟩) (.inl HFG.out) (.int .i64 (n:Int))).setCell (p:=⟨g,r*4+1,none⟩) (.inl HFG.out) (.int .i64 (k:Int))).setCell (p:=⟨g,r*4+2,none⟩) (.inl HFG.out) (.int .i64 (n:Int))).setCell (p:=⟨g,r*4+3,none⟩) (.inl HFG.out) (.int .i64 (k:Int))).drew
 have hk9:=(((((Zb.refl (fun b=>b=g) W7).setCell (p:=⟨g,r*4,none⟩) (.inl rfl) (.int .i64 (n:Int))).setCell (p:=⟨g,r*4+1,none⟩) (.inl rfl) (.int .i64 (k:Int))).setCell (p:=⟨g,r*4+2,none⟩) (.inl rfl) (.int .i64 (n:Int))).setCell (p:=⟨g,r*4+3,none⟩) (.inl rfl) (.int .i64 (k:Int))).drew
 rw[hW8] at hD8 hk8 hk9 ⊢
 have hc8:=HC7.out.above hk9 (fun b hb e=>by omega)
 obtain⟨-,⟨cy0,cy1⟩,⟨ch0,ch1⟩⟩:=hc8.cells
 obtain⟨⟨fy0,fy1⟩,-⟩:=hc8.frozen
 have hzl8:=Zc hc8.z
 have HD8:=hid hD8
 have HK8:=hid hk8
 clear hW8 hD8 hk8 hk9 hc8 q0 q1 q2 q3 qf0 qf1 qf2 qf3 k6 ty0 ty1 ty2 ty3
 go_wp2
 refine bodyPost_ret (v:=Zi 0 0) (by simp[results,Tryz.results130,go_sem,cy0,cy1,ch0,ch1,fy0,fy1,hzl8]) rfl ?_
 refine⟨rfl,(HK8.out.setCell (p:=⟨w.heap.size+1,0,none⟩) (.inr (Nat.le_succ _)) _).setCell (p:=⟨w.heap.size+1,1,none⟩) (.inr (Nat.le_succ _)) _,bn,cap,rn,rv,?_⟩
 refine(HD8.out.keeps (((Zb.refl (fun b=>b=w.heap.size+1) _).setCell (p:=⟨w.heap.size+1,0,none⟩) (.inl rfl) _).setCell (p:=⟨w.heap.size+1,1,none⟩) (.inl rfl) _) ?_).wider (fun b hb=>.inl hb.1)
 intro b hb e
 have:=hb.2
 omega
theorem rset_t2 (wf:WF s) {h:Nat→Nat} {B:Nat} (u:Up s h B) (hD:Zf w F bd bn cap rn rv s rs) (r:Nat) (x:Sp) (hx:rs[r]?=some x) (n k n2 k2:Nat) (hx2:x.c=(n2:Int)) (hx3:x.d=(k2:Int)) (tf:Nat→Nat) (htf:∀ m,m < s.length→Zm s m (tf m)) (hn:n < s.length) (hn2:n2 < s.length) (hf:Zs s n k=(0,0)) (he:tf n=tf n2) (qa qb:Int) (ha:ZJ (plF s (B+1) (tf n2)) (n2,k2) qa) (hb:ZJ (plF s (B+1) (tf n2)) (n,k) qb) (hlt:decide (qa < qb)=true) :
 Calls Tryz.prog 130 #[.pointer (some ⟨bd,0,none⟩),.int .i64 (r:Int),.agg #[.int .i64 (n:Int),.int .i64 (k:Int)],.bool true] w fun e w'=>e=.returned (Zi 0 0)∧Zb F w w'∧RDoc w' (fun b=>F b∨w.heap.size≤b) bd s (rs.set r ⟨n,k,n,k⟩):=by
 have hr:r<rs.length:=(List.getElem?_eq_some_iff.1 hx).1
 have CR:=hid (YU (hD.below (YT w n k 0)) r hr)
 have h1b:((0:Int) == 0)=true:=rfl
 have CG:=hid (fun w' (hb:Below w.heap.size w w')=>Yz (hD.below hb) n k)
 rw[hf] at CG
 have CT:=hid (fun w' (hb:Below w.heap.size w w') m (hm:m<s.length) q=>XB (w:=w'.drewN q) wf (hD.below (Zj hb q)) (htf m hm) hm)
 have CA:=hid (fun w' (hB:Below w.heap.size w w')=>X3 wf u (hD.below hB) (by first|exact hn|exact hn2) (htf n2 (by first|exact hn|exact hn2)) ha hb)
 rw[hlt] at CA
 have heI:((tf n:Int) != (tf n2:Int))=false:=by simp[he]
 obtain⟨g,c,hrve,hgl,hFg,hgd,hgn,e0,e1,e2,e3,hfr⟩:=hD.spanCells hx
 have hdv:=hD.rangesCell
 rw[hrve] at hdv
 have hlt':=hD.lt
 have HFR:=hid hfr
 have HX:=hid hx
 have HD:=hid hD
 have HRV:=hid hrve
 have HFG:=hid hFg
 rw[hx2] at e2;rw[hx3] at e3
 clear hD wf htf u hfr hx hrve ha hb hlt
 go_enter Tryz.func130,Tryz.ntmps130
 go_wp2_with (first
  | (go_at_call 131;refine CR.out.mono ?_;rintro e w1 ⟨rfl,hb1⟩
     have HB1:=hid hb1
     clear hb1)
  | (go_at_call 127;refine(CG.out w2 HB2.out).mono ?_;rintro e w3 ⟨rfl,hb3⟩
     have hc3:=HC2.out.below hb3
     obtain⟨-,-,⟨g0,g1⟩⟩:=hc3.cells
     obtain⟨-,⟨ff0,ff1⟩⟩:=hc3.frozen
     have HC3:=hid hc3
     have HB3:=hid (HB2.out.trans (hb3.mono HB2.out.size))
     clear hc3 hb3)
  | (go_at_call 124;have hc4:=HC3.out.put 0 0;refine(Zy 0 0 _).mono ?_;rintro e w4 ⟨rfl,hb4⟩
     have hc5:=hc4.below hb4
     obtain⟨⟨pa0,pa1⟩,⟨cz0,cz1⟩,⟨cg0,cg1⟩⟩:=hc5.cells
     obtain⟨⟨fz0,fz1⟩,-⟩:=hc5.frozen
     have hzl:=Zc hc5.z
     have hpl4:=Zc hc5.p
     have hfl4:=Zc hc5.f
     have HC5:=hid hc5
     have HB5:=hid (((HB3.out.setCell (p:=⟨w1.heap.size,0,none⟩) (by have:=HC3.out.gt;show w.heap.size≤w1.heap.size;omega) (.int .i64 0)).setCell (p:=⟨w1.heap.size,1,none⟩) (by have:=HC3.out.gt;show w.heap.size≤w1.heap.size;omega) (.int .i64 0)).trans (hb4.mono (by have:=HB3.out.size;simpa using this)))
     clear hc4 hc5 hb4
     have k1:=(HB5.out.cell (p:=⟨bd,1,none⟩) hlt'.1).trans hdv
     have m0:=(HB5.out.cell (p:=⟨g,r*4,none⟩) hgl).trans e0
     have m1:=(HB5.out.cell (p:=⟨g,r*4+1,none⟩) hgl).trans e1
     have m2:=(HB5.out.cell (p:=⟨g,r*4+2,none⟩) hgl).trans e2
     have m3:=(HB5.out.cell (p:=⟨g,r*4+3,none⟩) hgl).trans e3
     have hz4:=HB5.out.size
     have hbd4:bd<w4.heap.size:=by omega
     have hg4:g<w4.heap.size:=by omega
     have hnp:¬ w4.heap.size=w.heap.size:=by omega
     rw[h1b])
  | (go_at_call 124;refine(Zy 0 0 _).mono ?_;rintro e w2 ⟨rfl,hb2⟩
     obtain⟨hc2,hB2⟩:=Bx.first HB1.out hb2
     obtain⟨⟨a0,a1⟩,-,⟨cf0,cf1⟩⟩:=hc2.cells
     have hgt:=hc2.gt
     have hpl:=Zc hc2.p
     have HC2:=hid hc2
     have HB2:=hid hB2
     clear hb2 hc2 hB2
     rw[h1b]))
 have HB6:=hid (HB5.out.alloc HB5.out.size (.cells #[.int .i64 (n:Int),.int .i64 (k:Int),.int .i64 (n2:Int),.int .i64 (k2:Int)] 79))
 have hc6:=HC5.out.below ((Below.refl _ w4).alloc (Nat.le_refl _) (.cells #[.int .i64 (n:Int),.int .i64 (k:Int),.int .i64 (n2:Int),.int .i64 (k2:Int)] 79))
 have HC6:=hid hc6
 have hsA:=heap_alloc_new w4 (.cells #[.int .i64 (n:Int),.int .i64 (k:Int),.int .i64 (n2:Int),.int .i64 (k2:Int)] 79)
 have HSA:=hid hsA
 have sz0:=Za hsA 0
 have sz1:=Za hsA 1
 have sz2:=Za hsA 2
 have sz3:=Za hsA 3
 have sf0:=Zd hsA 0
 have sf1:=Zd hsA 1
 have sf2:=Zd hsA 2
 have sf3:=Zd hsA 3
 clear hsA hc6
 go_quiet ((go_at_call 128;exact Calls.quiet_of_same (CT.out _ HB6.out _ (by first|exact hn|exact hn2) _)))
 have HB6q:=hid (Zj HB6.out nq)
 have HC6q:=hid (HC6.out.below (Zj (Below.refl _ _) nq))
 go_wp2_with (
  go_at_call 129;refine(CA.out _ HB6q.out).mono ?_;rintro e w6 ⟨rfl,hb6⟩
  have hB6:=HB6q.out.trans (hb6.mono HB6q.out.size)
  have hc6:=HC6q.out.below hb6
  obtain⟨⟨pb0,pb1⟩,-,-⟩:=hc6.cells
  have hsB:=(hb6.block w4.heap.size (Zc HSA.out)).trans HSA.out
  have ux0:=Za hsB 0
  have ux1:=Za hsB 1
  have ux2:=Za hsB 2
  have ux3:=Za hsB 3
  have vx0:=Zd hsB 0
  have vx1:=Zd hsB 1
  have vx2:=Zd hsB 2
  have vx3:=Zd hsB 3
  have hsl6:=Zc hsB
  have HSB:=hid hsB
  have HCX:=hid hc6
  have HBX:=hid hB6
  clear hsB hc6 hb6 hB6)
 obtain⟨W7,hW7⟩:∃ W7,((((w6.setCell ⟨w4.heap.size,0,none⟩ (.int .i64 (n:Int))).setCell ⟨w4.heap.size,1,none⟩ (.int .i64 (k:Int))).setCell ⟨w4.heap.size,2,none⟩ (.int .i64 (n:Int))).setCell ⟨w4.heap.size,3,none⟩ (.int .i64 (k:Int)))=W7:=⟨_,rfl⟩
 have hk7:Zb (fun b=>b=w4.heap.size) w6 W7:=by rw[← hW7];exact(((((Zb.refl (fun b=>b=w4.heap.size) w6).setCell (p:=⟨w4.heap.size,0,none⟩) (.inl rfl) (.int .i64 (n:Int))).setCell (p:=⟨w4.heap.size,1,none⟩) (.inl rfl) (.int .i64 (k:Int))).setCell (p:=⟨w4.heap.size,2,none⟩) (.inl rfl) (.int .i64 (n:Int))).setCell (p:=⟨w4.heap.size,3,none⟩) (.inl rfl) (.int .i64 (k:Int)))
 have hB7:Below w.heap.size w W7:=by rw[← hW7];exact((((HBX.out.setCell (p:=⟨w4.heap.size,0,none⟩) hz4 (.int .i64 (n:Int))).setCell (p:=⟨w4.heap.size,1,none⟩) hz4 (.int .i64 (k:Int))).setCell (p:=⟨w4.heap.size,2,none⟩) hz4 (.int .i64 (n:Int))).setCell (p:=⟨w4.heap.size,3,none⟩) hz4 (.int .i64 (k:Int)))
 have hs7:W7.heap[w4.heap.size]?=some (.cells #[.int .i64 (n:Int),.int .i64 (k:Int),.int .i64 (n:Int),.int .i64 (k:Int)] 79 (0,0)):=by
  rw[← hW7,heap_setCell_same _ w4.heap.size 3 _ _ _ (heap_setCell_same _ w4.heap.size 2 _ _ _ (heap_setCell_same _ w4.heap.size 1 _ _ _ (heap_setCell_same _ w4.heap.size 0 _ _ _ HSB.out)))]
  simp
 have hc7:=(HCX.out).keeps hk7 hfl4
 rw[hW7]
 obtain⟨-,⟨cy0,cy1⟩,⟨ch0,ch1⟩⟩:=hc7.cells
 obtain⟨⟨fy0,fy1⟩,-⟩:=hc7.frozen
 have hgt7:=hc7.gt
 have ty0:=Za hs7 0
 have ty1:=Za hs7 1
 have ty2:=Za hs7 2
 have ty3:=Za hs7 3
 obtain⟨q0,q1,q2,q3,qf⟩:=(HD.out.below hB7).spanAt HX.out HRV.out
 have qf0:=qf (r*4)
 have qf1:=qf (r*4+1)
 have qf2:=qf (r*4+2)
 have qf3:=qf (r*4+3)
 have k6:=(hB7.cell (p:=⟨bd,1,none⟩) hlt'.1).trans hdv
 have hgf:¬ w1.heap.size=g:=by omega
 have hgz:¬ w.heap.size+1=g:=by omega
 have hzf:¬ w.heap.size+1=w1.heap.size:=by omega
 have hzl7:=Zc hc7.z
 have HB7:=hid hB7
 have HG:=hid (And.intro hgl hgl)
 have HC7:=hid hc7
 clear ux0 ux1 ux2 ux3 vx0 vx1 vx2 vx3 hW7 hk7 hB7 hs7 hc7 qf sz0 sz1 sz2 sz3 sf0 sf1 sf2 sf3 pa0 pa1 cz0 cz1 cg0 cg1 fz0 fz1 m0 m1 m2 m3 k1 e0 e1 e2 e3 cy0 cy1 ch0 ch1 fy0 fy1
 go_region
 obtain⟨W8,hW8⟩:∃ W8,((((W7.setCell ⟨g,r*4,none⟩ (.int .i64 (n:Int))).setCell ⟨g,r*4+1,none⟩ (.int .i64 (k:Int))).setCell ⟨g,r*4+2,none⟩ (.int .i64 (n:Int))).setCell ⟨g,r*4+3,none⟩ (.int .i64 (k:Int))).drew=W8:=⟨_,rfl⟩
 have hD8:=((HD.out.narrow.below HB7.out).setAll HRV.out HX.out n k n k).drew
 have hk8:=(((((Zb.of_below (F:=F) HB7.out).setCell (p:=⟨g,r*4,none⟩) (.inl HFG.out) (.int .i64 (n:Int))).setCell (p:=⟨g,r*4+1,none⟩) (.inl HFG.out) (.int .i64 (k:Int))).setCell (p:=⟨g,r*4+2,none⟩) (.inl HFG.out) (.int .i64 (n:Int))).setCell (p:=⟨g,r*4+3,none⟩) (.inl HFG.out) (.int .i64 (k:Int))).drew
 have hk9:=(((((Zb.refl (fun b=>b=g) W7).setCell (p:=⟨g,r*4,none⟩) (.inl rfl) (.int .i64 (n:Int))).setCell (p:=⟨g,r*4+1,none⟩) (.inl rfl) (.int .i64 (k:Int))).setCell (p:=⟨g,r*4+2,none⟩) (.inl rfl) (.int .i64 (n:Int))).setCell (p:=⟨g,r*4+3,none⟩) (.inl rfl) (.int .i64 (k:Int))).drew
 rw[hW8] at hD8 hk8 hk9 ⊢
 have hc8:=HC7.out.above hk9 (fun b hb e=>by omega)
 obtain⟨-,⟨cy0,cy1⟩,⟨ch0,ch1⟩⟩:=hc8.cells
 obtain⟨⟨fy0,fy1⟩,-⟩:=hc8.frozen
 have hzl8:=Zc hc8.z
 have HD8:=hid hD8
 have HK8:=hid hk8
 clear hW8 hD8 hk8 hk9 hc8 q0 q1 q2 q3 qf0 qf1 qf2 qf3 k6 ty0 ty1 ty2 ty3
 go_wp2
 refine bodyPost_ret (v:=Zi 0 0) (by simp[results,Tryz.results130,go_sem,cy0,cy1,ch0,ch1,fy0,fy1,hzl8]) rfl ?_
 refine⟨rfl,(HK8.out.setCell (p:=⟨w.heap.size+1,0,none⟩) (.inr (Nat.le_succ _)) _).setCell (p:=⟨w.heap.size+1,1,none⟩) (.inr (Nat.le_succ _)) _,bn,cap,rn,rv,?_⟩
 refine(HD8.out.keeps (((Zb.refl (fun b=>b=w.heap.size+1) _).setCell (p:=⟨w.heap.size+1,0,none⟩) (.inl rfl) _).setCell (p:=⟨w.heap.size+1,1,none⟩) (.inl rfl) _) ?_).wider (fun b hb=>.inl hb.1)
 intro b hb e
 have:=hb.2
 omega
theorem rset_t3 (wf:WF s) {h:Nat→Nat} {B:Nat} (u:Up s h B) (hD:Zf w F bd bn cap rn rv s rs) (r:Nat) (x:Sp) (hx:rs[r]?=some x) (n k n2 k2:Nat) (hx2:x.c=(n2:Int)) (hx3:x.d=(k2:Int)) (tf:Nat→Nat) (htf:∀ m,m < s.length→Zm s m (tf m)) (hn:n < s.length) (hn2:n2 < s.length) (hf:Zs s n k=(0,0)) (he:tf n=tf n2) (qa qb:Int) (ha:ZJ (plF s (B+1) (tf n2)) (n2,k2) qa) (hb:ZJ (plF s (B+1) (tf n2)) (n,k) qb) (hlt:decide (qa < qb)=false) :
 Calls Tryz.prog 130 #[.pointer (some ⟨bd,0,none⟩),.int .i64 (r:Int),.agg #[.int .i64 (n:Int),.int .i64 (k:Int)],.bool true] w fun e w'=>e=.returned (Zi 0 0)∧Zb F w w'∧RDoc w' (fun b=>F b∨w.heap.size≤b) bd s (rs.set r ⟨n,k,n2,k2⟩):=by
 have hr:r<rs.length:=(List.getElem?_eq_some_iff.1 hx).1
 have CR:=hid (YU (hD.below (YT w n k 0)) r hr)
 have h1b:((0:Int) == 0)=true:=rfl
 have CG:=hid (fun w' (hb:Below w.heap.size w w')=>Yz (hD.below hb) n k)
 rw[hf] at CG
 have CT:=hid (fun w' (hb:Below w.heap.size w w') m (hm:m<s.length) q=>XB (w:=w'.drewN q) wf (hD.below (Zj hb q)) (htf m hm) hm)
 have CA:=hid (fun w' (hB:Below w.heap.size w w')=>X3 wf u (hD.below hB) (by first|exact hn|exact hn2) (htf n2 (by first|exact hn|exact hn2)) ha hb)
 rw[hlt] at CA
 have heI:((tf n:Int) != (tf n2:Int))=false:=by simp[he]
 obtain⟨g,c,hrve,hgl,hFg,hgd,hgn,e0,e1,e2,e3,hfr⟩:=hD.spanCells hx
 have hdv:=hD.rangesCell
 rw[hrve] at hdv
 have hlt':=hD.lt
 have HFR:=hid hfr
 have HX:=hid hx
 have HD:=hid hD
 have HRV:=hid hrve
 have HFG:=hid hFg
 rw[hx2] at e2;rw[hx3] at e3
 clear hD wf htf u hfr hx hrve ha hb hlt
 go_enter Tryz.func130,Tryz.ntmps130
 go_wp2_with (first
  | (go_at_call 131;refine CR.out.mono ?_;rintro e w1 ⟨rfl,hb1⟩
     have HB1:=hid hb1
     clear hb1)
  | (go_at_call 127;refine(CG.out w2 HB2.out).mono ?_;rintro e w3 ⟨rfl,hb3⟩
     have hc3:=HC2.out.below hb3
     obtain⟨-,-,⟨g0,g1⟩⟩:=hc3.cells
     obtain⟨-,⟨ff0,ff1⟩⟩:=hc3.frozen
     have HC3:=hid hc3
     have HB3:=hid (HB2.out.trans (hb3.mono HB2.out.size))
     clear hc3 hb3)
  | (go_at_call 124;have hc4:=HC3.out.put 0 0;refine(Zy 0 0 _).mono ?_;rintro e w4 ⟨rfl,hb4⟩
     have hc5:=hc4.below hb4
     obtain⟨⟨pa0,pa1⟩,⟨cz0,cz1⟩,⟨cg0,cg1⟩⟩:=hc5.cells
     obtain⟨⟨fz0,fz1⟩,-⟩:=hc5.frozen
     have hzl:=Zc hc5.z
     have hpl4:=Zc hc5.p
     have hfl4:=Zc hc5.f
     have HC5:=hid hc5
     have HB5:=hid (((HB3.out.setCell (p:=⟨w1.heap.size,0,none⟩) (by have:=HC3.out.gt;show w.heap.size≤w1.heap.size;omega) (.int .i64 0)).setCell (p:=⟨w1.heap.size,1,none⟩) (by have:=HC3.out.gt;show w.heap.size≤w1.heap.size;omega) (.int .i64 0)).trans (hb4.mono (by have:=HB3.out.size;simpa using this)))
     clear hc4 hc5 hb4
     have k1:=(HB5.out.cell (p:=⟨bd,1,none⟩) hlt'.1).trans hdv
     have m0:=(HB5.out.cell (p:=⟨g,r*4,none⟩) hgl).trans e0
     have m1:=(HB5.out.cell (p:=⟨g,r*4+1,none⟩) hgl).trans e1
     have m2:=(HB5.out.cell (p:=⟨g,r*4+2,none⟩) hgl).trans e2
     have m3:=(HB5.out.cell (p:=⟨g,r*4+3,none⟩) hgl).trans e3
     have hz4:=HB5.out.size
     have hbd4:bd<w4.heap.size:=by omega
     have hg4:g<w4.heap.size:=by omega
     have hnp:¬ w4.heap.size=w.heap.size:=by omega
     rw[h1b])
  | (go_at_call 124;refine(Zy 0 0 _).mono ?_;rintro e w2 ⟨rfl,hb2⟩
     obtain⟨hc2,hB2⟩:=Bx.first HB1.out hb2
     obtain⟨⟨a0,a1⟩,-,⟨cf0,cf1⟩⟩:=hc2.cells
     have hgt:=hc2.gt
     have hpl:=Zc hc2.p
     have HC2:=hid hc2
     have HB2:=hid hB2
     clear hb2 hc2 hB2
     rw[h1b]))
 have HB6:=hid (HB5.out.alloc HB5.out.size (.cells #[.int .i64 (n:Int),.int .i64 (k:Int),.int .i64 (n2:Int),.int .i64 (k2:Int)] 79))
 have hc6:=HC5.out.below ((Below.refl _ w4).alloc (Nat.le_refl _) (.cells #[.int .i64 (n:Int),.int .i64 (k:Int),.int .i64 (n2:Int),.int .i64 (k2:Int)] 79))
 have HC6:=hid hc6
 have hsA:=heap_alloc_new w4 (.cells #[.int .i64 (n:Int),.int .i64 (k:Int),.int .i64 (n2:Int),.int .i64 (k2:Int)] 79)
 have HSA:=hid hsA
 have sz0:=Za hsA 0
 have sz1:=Za hsA 1
 have sz2:=Za hsA 2
 have sz3:=Za hsA 3
 have sf0:=Zd hsA 0
 have sf1:=Zd hsA 1
 have sf2:=Zd hsA 2
 have sf3:=Zd hsA 3
 clear hsA hc6
 go_quiet ((go_at_call 128;exact Calls.quiet_of_same (CT.out _ HB6.out _ (by first|exact hn|exact hn2) _)))
 have HB6q:=hid (Zj HB6.out nq)
 have HC6q:=hid (HC6.out.below (Zj (Below.refl _ _) nq))
 go_wp2_with (
  go_at_call 129;refine(CA.out _ HB6q.out).mono ?_;rintro e w6 ⟨rfl,hb6⟩
  have hB6:=HB6q.out.trans (hb6.mono HB6q.out.size)
  have hc6:=HC6q.out.below hb6
  obtain⟨⟨pb0,pb1⟩,-,-⟩:=hc6.cells
  have hsB:=(hb6.block w4.heap.size (Zc HSA.out)).trans HSA.out
  have ux0:=Za hsB 0
  have ux1:=Za hsB 1
  have ux2:=Za hsB 2
  have ux3:=Za hsB 3
  have vx0:=Zd hsB 0
  have vx1:=Zd hsB 1
  have vx2:=Zd hsB 2
  have vx3:=Zd hsB 3
  have hsl6:=Zc hsB
  have HSB:=hid hsB
  have HCX:=hid hc6
  have HBX:=hid hB6
  clear hsB hc6 hb6 hB6)
 obtain⟨W7,hW7⟩:∃ W7,w6=W7:=⟨_,rfl⟩
 have hk7:Zb (fun b=>b=w4.heap.size) w6 W7:=by rw[← hW7];exact Zb.refl _ _
 have hB7:Below w.heap.size w W7:=by rw[← hW7];exact HBX.out
 have hs7:W7.heap[w4.heap.size]?=some (.cells #[.int .i64 (n:Int),.int .i64 (k:Int),.int .i64 (n2:Int),.int .i64 (k2:Int)] 79 (0,0)):=by rw[← hW7];exact HSB.out
 have hc7:=(HCX.out).keeps hk7 hfl4
 rw[hW7]
 obtain⟨-,⟨cy0,cy1⟩,⟨ch0,ch1⟩⟩:=hc7.cells
 obtain⟨⟨fy0,fy1⟩,-⟩:=hc7.frozen
 have hgt7:=hc7.gt
 have ty0:=Za hs7 0
 have ty1:=Za hs7 1
 have ty2:=Za hs7 2
 have ty3:=Za hs7 3
 obtain⟨q0,q1,q2,q3,qf⟩:=(HD.out.below hB7).spanAt HX.out HRV.out
 have qf0:=qf (r*4)
 have qf1:=qf (r*4+1)
 have qf2:=qf (r*4+2)
 have qf3:=qf (r*4+3)
 have k6:=(hB7.cell (p:=⟨bd,1,none⟩) hlt'.1).trans hdv
 have hgf:¬ w1.heap.size=g:=by omega
 have hgz:¬ w.heap.size+1=g:=by omega
 have hzf:¬ w.heap.size+1=w1.heap.size:=by omega
 have hzl7:=Zc hc7.z
 have HB7:=hid hB7
 have HG:=hid (And.intro hgl hgl)
 have HC7:=hid hc7
 clear ux0 ux1 ux2 ux3 vx0 vx1 vx2 vx3 hW7 hk7 hB7 hs7 hc7 qf sz0 sz1 sz2 sz3 sf0 sf1 sf2 sf3 pa0 pa1 cz0 cz1 cg0 cg1 fz0 fz1 m0 m1 m2 m3 k1 e0 e1 e2 e3 cy0 cy1 ch0 ch1 fy0 fy1
 go_region
 obtain⟨W8,hW8⟩:∃ W8,((((W7.setCell ⟨g,r*4,none⟩ (.int .i64 (n:Int))).setCell ⟨g,r*4+1,none⟩ (.int .i64 (k:Int))).setCell ⟨g,r*4+2,none⟩ (.int .i64 (n2:Int))).setCell ⟨g,r*4+3,none⟩ (.int .i64 (k2:Int))).drew=W8:=⟨_,rfl⟩
 have hD8:=((HD.out.narrow.below HB7.out).setAll HRV.out HX.out n k n2 k2).drew
 have hk8:=(((((Zb.of_below (F:=F) HB7.out).setCell (p:=⟨g,r*4,none⟩) (.inl HFG.out) (.int .i64 (n:Int))).setCell (p:=⟨g,r*4+1,none⟩) (.inl HFG.out) (.int .i64 (k:Int))).setCell (p:=⟨g,r*4+2,none⟩) (.inl HFG.out) (.int .i64 (n2:Int))).setCell (p:=⟨g,r*4+3,none⟩) (.inl HFG.out) (.int .i64 (k2:Int))).drew
 have hk9:=(((((Zb.refl (fun b=>b=g) W7).setCell (p:=⟨g,r*4,none⟩) (.inl rfl) (.int .i64 (n:Int))).setCell (p:=⟨g,r*4+1,none⟩) (.inl rfl) (.int .i64 (k:Int))).setCell (p:=⟨g,r*4+2,none⟩) (.inl rfl) (.int .i64 (n2:Int))).setCell (p:=⟨g,r*4+3,none⟩) (.inl rfl) (.int .i64 (k2:Int))).drew
 rw[hW8] at hD8 hk8 hk9 ⊢
 have hc8:=HC7.out.above hk9 (fun b hb e=>by omega)
 obtain⟨-,⟨cy0,cy1⟩,⟨ch0,ch1⟩⟩:=hc8.cells
 obtain⟨⟨fy0,fy1⟩,-⟩:=hc8.frozen
 have hzl8:=Zc hc8.z
 have HD8:=hid hD8
 have HK8:=hid hk8
 clear hW8 hD8 hk8 hk9 hc8 q0 q1 q2 q3 qf0 qf1 qf2 qf3 k6 ty0 ty1 ty2 ty3
 go_wp2
 refine bodyPost_ret (v:=Zi 0 0) (by simp[results,Tryz.results130,go_sem,cy0,cy1,ch0,ch1,fy0,fy1,hzl8]) rfl ?_
 refine⟨rfl,(HK8.out.setCell (p:=⟨w.heap.size+1,0,none⟩) (.inr (Nat.le_succ _)) _).setCell (p:=⟨w.heap.size+1,1,none⟩) (.inr (Nat.le_succ _)) _,bn,cap,rn,rv,?_⟩
 refine(HD8.out.keeps (((Zb.refl (fun b=>b=w.heap.size+1) _).setCell (p:=⟨w.heap.size+1,0,none⟩) (.inl rfl) _).setCell (p:=⟨w.heap.size+1,1,none⟩) (.inl rfl) _) ?_).wider (fun b hb=>.inl hb.1)
 intro b hb e
 have:=hb.2
 omega
theorem rset_e1 (wf:WF s) {h:Nat→Nat} {B:Nat} (u:Up s h B) (hD:Zf w F bd bn cap rn rv s rs) (r:Nat) (x:Sp) (hx:rs[r]?=some x) (n k n2 k2:Nat) (hx2:x.a=(n2:Int)) (hx3:x.b=(k2:Int)) (tf:Nat→Nat) (htf:∀ m,m < s.length→Zm s m (tf m)) (hn:n < s.length) (hn2:n2 < s.length) (hf:Zs s n k=(0,0)) (hne:tf n2≠tf n) :
 Calls Tryz.prog 130 #[.pointer (some ⟨bd,0,none⟩),.int .i64 (r:Int),.agg #[.int .i64 (n:Int),.int .i64 (k:Int)],.bool false] w fun e w'=>e=.returned (Zi 0 0)∧Zb F w w'∧RDoc w' (fun b=>F b∨w.heap.size≤b) bd s (rs.set r ⟨n,k,n,k⟩):=by
 have hr:r<rs.length:=(List.getElem?_eq_some_iff.1 hx).1
 have CR:=hid (YU (hD.below (YT w n k 0)) r hr)
 have h1b:((0:Int) == 0)=true:=rfl
 have CG:=hid (fun w' (hb:Below w.heap.size w w')=>Yz (hD.below hb) n k)
 rw[hf] at CG
 have CT:=hid (fun w' (hb:Below w.heap.size w w') m (hm:m<s.length) q=>XB (w:=w'.drewN q) wf (hD.below (Zj hb q)) (htf m hm) hm)
 have hneI:¬ (tf n2:Int)=(tf n:Int):=fun e=>hne (by omega)
 have heI:((tf n2:Int) != (tf n:Int))=true:=by simpa using hneI
 obtain⟨g,c,hrve,hgl,hFg,hgd,hgn,e0,e1,e2,e3,hfr⟩:=hD.spanCells hx
 have hdv:=hD.rangesCell
 rw[hrve] at hdv
 have hlt':=hD.lt
 have HFR:=hid hfr
 have HX:=hid hx
 have HD:=hid hD
 have HRV:=hid hrve
 have HFG:=hid hFg
 rw[hx2] at e0;rw[hx3] at e1
 clear hD wf htf u hfr hx hrve
 go_enter Tryz.func130,Tryz.ntmps130
 go_wp2_with (first
  | (go_at_call 131;refine CR.out.mono ?_;rintro e w1 ⟨rfl,hb1⟩
     have HB1:=hid hb1
     clear hb1)
  | (go_at_call 127;refine(CG.out w2 HB2.out).mono ?_;rintro e w3 ⟨rfl,hb3⟩
     have hc3:=HC2.out.below hb3
     obtain⟨-,-,⟨g0,g1⟩⟩:=hc3.cells
     obtain⟨-,⟨ff0,ff1⟩⟩:=hc3.frozen
     have HC3:=hid hc3
     have HB3:=hid (HB2.out.trans (hb3.mono HB2.out.size))
     clear hc3 hb3)
  | (go_at_call 124;have hc4:=HC3.out.put 0 0;refine(Zy 0 0 _).mono ?_;rintro e w4 ⟨rfl,hb4⟩
     have hc5:=hc4.below hb4
     obtain⟨⟨pa0,pa1⟩,⟨cz0,cz1⟩,⟨cg0,cg1⟩⟩:=hc5.cells
     obtain⟨⟨fz0,fz1⟩,-⟩:=hc5.frozen
     have hzl:=Zc hc5.z
     have hpl4:=Zc hc5.p
     have hfl4:=Zc hc5.f
     have HC5:=hid hc5
     have HB5:=hid (((HB3.out.setCell (p:=⟨w1.heap.size,0,none⟩) (by have:=HC3.out.gt;show w.heap.size≤w1.heap.size;omega) (.int .i64 0)).setCell (p:=⟨w1.heap.size,1,none⟩) (by have:=HC3.out.gt;show w.heap.size≤w1.heap.size;omega) (.int .i64 0)).trans (hb4.mono (by have:=HB3.out.size;simpa using this)))
     clear hc4 hc5 hb4
     have k1:=(HB5.out.cell (p:=⟨bd,1,none⟩) hlt'.1).trans hdv
     have m0:=(HB5.out.cell (p:=⟨g,r*4,none⟩) hgl).trans e0
     have m1:=(HB5.out.cell (p:=⟨g,r*4+1,none⟩) hgl).trans e1
     have m2:=(HB5.out.cell (p:=⟨g,r*4+2,none⟩) hgl).trans e2
     have m3:=(HB5.out.cell (p:=⟨g,r*4+3,none⟩) hgl).trans e3
     have hz4:=HB5.out.size
     have hbd4:bd<w4.heap.size:=by omega
     have hg4:g<w4.heap.size:=by omega
     have hnp:¬ w4.heap.size=w.heap.size:=by omega
     rw[h1b])
  | (go_at_call 124;refine(Zy 0 0 _).mono ?_;rintro e w2 ⟨rfl,hb2⟩
     obtain⟨hc2,hB2⟩:=Bx.first HB1.out hb2
     obtain⟨⟨a0,a1⟩,-,⟨cf0,cf1⟩⟩:=hc2.cells
     have hgt:=hc2.gt
     have hpl:=Zc hc2.p
     have HC2:=hid hc2
     have HB2:=hid hB2
     clear hb2 hc2 hB2
     rw[h1b]))
 have HB6:=hid (HB5.out.alloc HB5.out.size (.cells #[.int .i64 (n2:Int),.int .i64 (k2:Int),.int .i64 (n:Int),.int .i64 (k:Int)] 79))
 have hc6:=HC5.out.below ((Below.refl _ w4).alloc (Nat.le_refl _) (.cells #[.int .i64 (n2:Int),.int .i64 (k2:Int),.int .i64 (n:Int),.int .i64 (k:Int)] 79))
 have HC6:=hid hc6
 have hsA:=heap_alloc_new w4 (.cells #[.int .i64 (n2:Int),.int .i64 (k2:Int),.int .i64 (n:Int),.int .i64 (k:Int)] 79)
 have HSA:=hid hsA
 have sz0:=Za hsA 0
 have sz1:=Za hsA 1
 have sz2:=Za hsA 2
 have sz3:=Za hsA 3
 have sf0:=Zd hsA 0
 have sf1:=Zd hsA 1
 have sf2:=Zd hsA 2
 have sf3:=Zd hsA 3
 clear hsA hc6
 go_quiet ((go_at_call 128;exact Calls.quiet_of_same (CT.out _ HB6.out _ (by first|exact hn|exact hn2) _)))
 have HSB:Hid (((w4.alloc (.cells #[.int .i64 (n2:Int),.int .i64 (k2:Int),.int .i64 (n:Int),.int .i64 (k:Int)] 79)).drewN nq).heap[w4.heap.size]?=some (.cells #[.int .i64 (n2:Int),.int .i64 (k2:Int),.int .i64 (n:Int),.int .i64 (k:Int)] 79 (0,0))):=HSA.out
 go_wp2
 obtain⟨W7,hW7⟩:∃ W7,((((((w4.alloc (.cells #[.int .i64 (n2:Int),.int .i64 (k2:Int),.int .i64 (n:Int),.int .i64 (k:Int)] 79)).drewN nq).setCell ⟨w4.heap.size,0,none⟩ (.int .i64 (n:Int))).setCell ⟨w4.heap.size,1,none⟩ (.int .i64 (k:Int))).setCell ⟨w4.heap.size,2,none⟩ (.int .i64 (n:Int))).setCell ⟨w4.heap.size,3,none⟩ (.int .i64 (k:Int)))=W7:=⟨_,rfl⟩
 have hk7:Zb (fun b=>b=w4.heap.size) ((w4.alloc (.cells #[.int .i64 (n2:Int),.int .i64 (k2:Int),.int .i64 (n:Int),.int .i64 (k:Int)] 79)).drewN nq) W7:=by rw[← hW7];exact(((((Zb.refl (fun b=>b=w4.heap.size) ((w4.alloc (.cells #[.int .i64 (n2:Int),.int .i64 (k2:Int),.int .i64 (n:Int),.int .i64 (k:Int)] 79)).drewN nq)).setCell (p:=⟨w4.heap.size,0,none⟩) (.inl rfl) (.int .i64 (n:Int))).setCell (p:=⟨w4.heap.size,1,none⟩) (.inl rfl) (.int .i64 (k:Int))).setCell (p:=⟨w4.heap.size,2,none⟩) (.inl rfl) (.int .i64 (n:Int))).setCell (p:=⟨w4.heap.size,3,none⟩) (.inl rfl) (.int .i64 (k:Int)))
 have hB7:Below w.heap.size w W7:=by rw[← hW7];exact(((((Zj HB6.out nq).setCell (p:=⟨w4.heap.size,0,none⟩) hz4 (.int .i64 (n:Int))).setCell (p:=⟨w4.heap.size,1,none⟩) hz4 (.int .i64 (k:Int))).setCell (p:=⟨w4.heap.size,2,none⟩) hz4 (.int .i64 (n:Int))).setCell (p:=⟨w4.heap.size,3,none⟩) hz4 (.int .i64 (k:Int)))
 have hs7:W7.heap[w4.heap.size]?=some (.cells #[.int .i64 (n:Int),.int .i64 (k:Int),.int .i64 (n:Int),.int .i64 (k:Int)] 79 (0,0)):=by
  rw[← hW7,heap_setCell_same _ w4.heap.size 3 _ _ _ (heap_setCell_same _ w4.heap.size 2 _ _ _ (heap_setCell_same _ w4.heap.size 1 _ _ _ (heap_setCell_same _ w4.heap.size 0 _ _ _ HSB.out)))]
  simp
 have hc7:=(HC6.out.below (Zj (Below.refl _ _) nq)).keeps hk7 hfl4
 rw[hW7]
 obtain⟨-,⟨cy0,cy1⟩,⟨ch0,ch1⟩⟩:=hc7.cells
 obtain⟨⟨fy0,fy1⟩,-⟩:=hc7.frozen
 have hgt7:=hc7.gt
 have ty0:=Za hs7 0
 have ty1:=Za hs7 1
 have ty2:=Za hs7 2
 have ty3:=Za hs7 3
 obtain⟨q0,q1,q2,q3,qf⟩:=(HD.out.below hB7).spanAt HX.out HRV.out
 have qf0:=qf (r*4)
 have qf1:=qf (r*4+1)
 have qf2:=qf (r*4+2)
 have qf3:=qf (r*4+3)
 have k6:=(hB7.cell (p:=⟨bd,1,none⟩) hlt'.1).trans hdv
 have hgf:¬ w1.heap.size=g:=by omega
 have hgz:¬ w.heap.size+1=g:=by omega
 have hzf:¬ w.heap.size+1=w1.heap.size:=by omega
 have hzl7:=Zc hc7.z
 have HB7:=hid hB7
 have HG:=hid (And.intro hgl hgl)
 have HC7:=hid hc7
 clear hW7 hk7 hB7 hs7 hc7 qf sz0 sz1 sz2 sz3 sf0 sf1 sf2 sf3 pa0 pa1 cz0 cz1 cg0 cg1 fz0 fz1 m0 m1 m2 m3 k1 e0 e1 e2 e3 cy0 cy1 ch0 ch1 fy0 fy1
 go_region
 obtain⟨W8,hW8⟩:∃ W8,((((W7.setCell ⟨g,r*4,none⟩ (.int .i64 (n:Int))).setCell ⟨g,r*4+1,none⟩ (.int .i64 (k:Int))).setCell ⟨g,r*4+2,none⟩ (.int .i64 (n:Int))).setCell ⟨g,r*4+3,none⟩ (.int .i64 (k:Int))).drew=W8:=⟨_,rfl⟩
 have hD8:=((HD.out.narrow.below HB7.out).setAll HRV.out HX.out n k n k).drew
 have hk8:=(((((Zb.of_below (F:=F) HB7.out).setCell (p:=⟨g,r*4,none⟩) (.inl HFG.out) (.int .i64 (n:Int))).setCell (p:=⟨g,r*4+1,none⟩) (.inl HFG.out) (.int .i64 (k:Int))).setCell (p:=⟨g,r*4+2,none⟩) (.inl HFG.out) (.int .i64 (n:Int))).setCell (p:=⟨g,r*4+3,none⟩) (.inl HFG.out) (.int .i64 (k:Int))).drew
 have hk9:=(((((Zb.refl (fun b=>b=g) W7).setCell (p:=⟨g,r*4,none⟩) (.inl rfl) (.int .i64 (n:Int))).setCell (p:=⟨g,r*4+1,none⟩) (.inl rfl) (.int .i64 (k:Int))).setCell (p:=⟨g,r*4+2,none⟩) (.inl rfl) (.int .i64 (n:Int))).setCell (p:=⟨g,r*4+3,none⟩) (.inl rfl) (.int .i64 (k:Int))).drew
 rw[hW8] at hD8 hk8 hk9 ⊢
 have hc8:=HC7.out.above hk9 (fun b hb e=>by omega)
 obtain⟨-,⟨cy0,cy1⟩,⟨ch0,ch1⟩⟩:=hc8.cells
 obtain⟨⟨fy0,fy1⟩,-⟩:=hc8.frozen
 have hzl8:=Zc hc8.z
 have HD8:=hid hD8
 have HK8:=hid hk8
 clear hW8 hD8 hk8 hk9 hc8 q0 q1 q2 q3 qf0 qf1 qf2 qf3 k6 ty0 ty1 ty2 ty3
 go_wp2
 refine bodyPost_ret (v:=Zi 0 0) (by simp[results,Tryz.results130,go_sem,cy0,cy1,ch0,ch1,fy0,fy1,hzl8]) rfl ?_
 refine⟨rfl,(HK8.out.setCell (p:=⟨w.heap.size+1,0,none⟩) (.inr (Nat.le_succ _)) _).setCell (p:=⟨w.heap.size+1,1,none⟩) (.inr (Nat.le_succ _)) _,bn,cap,rn,rv,?_⟩
 refine(HD8.out.keeps (((Zb.refl (fun b=>b=w.heap.size+1) _).setCell (p:=⟨w.heap.size+1,0,none⟩) (.inl rfl) _).setCell (p:=⟨w.heap.size+1,1,none⟩) (.inl rfl) _) ?_).wider (fun b hb=>.inl hb.1)
 intro b hb e
 have:=hb.2
 omega
theorem rset_e2 (wf:WF s) {h:Nat→Nat} {B:Nat} (u:Up s h B) (hD:Zf w F bd bn cap rn rv s rs) (r:Nat) (x:Sp) (hx:rs[r]?=some x) (n k n2 k2:Nat) (hx2:x.a=(n2:Int)) (hx3:x.b=(k2:Int)) (tf:Nat→Nat) (htf:∀ m,m < s.length→Zm s m (tf m)) (hn:n < s.length) (hn2:n2 < s.length) (hf:Zs s n k=(0,0)) (he:tf n2=tf n) (qa qb:Int) (ha:ZJ (plF s (B+1) (tf n)) (n,k) qa) (hb:ZJ (plF s (B+1) (tf n)) (n2,k2) qb) (hlt:decide (qa < qb)=true) :
 Calls Tryz.prog 130 #[.pointer (some ⟨bd,0,none⟩),.int .i64 (r:Int),.agg #[.int .i64 (n:Int),.int .i64 (k:Int)],.bool false] w fun e w'=>e=.returned (Zi 0 0)∧Zb F w w'∧RDoc w' (fun b=>F b∨w.heap.size≤b) bd s (rs.set r ⟨n,k,n,k⟩):=by
 have hr:r<rs.length:=(List.getElem?_eq_some_iff.1 hx).1
 have CR:=hid (YU (hD.below (YT w n k 0)) r hr)
 have h1b:((0:Int) == 0)=true:=rfl
 have CG:=hid (fun w' (hb:Below w.heap.size w w')=>Yz (hD.below hb) n k)
 rw[hf] at CG
 have CT:=hid (fun w' (hb:Below w.heap.size w w') m (hm:m<s.length) q=>XB (w:=w'.drewN q) wf (hD.below (Zj hb q)) (htf m hm) hm)
 have CA:=hid (fun w' (hB:Below w.heap.size w w')=>X3 wf u (hD.below hB) (by first|exact hn|exact hn2) (htf n (by first|exact hn|exact hn2)) ha hb)
 rw[hlt] at CA
 have heI:((tf n2:Int) != (tf n:Int))=false:=by simp[he]
 obtain⟨g,c,hrve,hgl,hFg,hgd,hgn,e0,e1,e2,e3,hfr⟩:=hD.spanCells hx
 have hdv:=hD.rangesCell
 rw[hrve] at hdv
 have hlt':=hD.lt
 have HFR:=hid hfr
 have HX:=hid hx
 have HD:=hid hD
 have HRV:=hid hrve
 have HFG:=hid hFg
 rw[hx2] at e0;rw[hx3] at e1
 clear hD wf htf u hfr hx hrve ha hb hlt
 go_enter Tryz.func130,Tryz.ntmps130
 go_wp2_with (first
  | (go_at_call 131;refine CR.out.mono ?_;rintro e w1 ⟨rfl,hb1⟩
     have HB1:=hid hb1
     clear hb1)
  | (go_at_call 127;refine(CG.out w2 HB2.out).mono ?_;rintro e w3 ⟨rfl,hb3⟩
     have hc3:=HC2.out.below hb3
     obtain⟨-,-,⟨g0,g1⟩⟩:=hc3.cells
     obtain⟨-,⟨ff0,ff1⟩⟩:=hc3.frozen
     have HC3:=hid hc3
     have HB3:=hid (HB2.out.trans (hb3.mono HB2.out.size))
     clear hc3 hb3)
  | (go_at_call 124;have hc4:=HC3.out.put 0 0;refine(Zy 0 0 _).mono ?_;rintro e w4 ⟨rfl,hb4⟩
     have hc5:=hc4.below hb4
     obtain⟨⟨pa0,pa1⟩,⟨cz0,cz1⟩,⟨cg0,cg1⟩⟩:=hc5.cells
     obtain⟨⟨fz0,fz1⟩,-⟩:=hc5.frozen
     have hzl:=Zc hc5.z
     have hpl4:=Zc hc5.p
     have hfl4:=Zc hc5.f
     have HC5:=hid hc5
     have HB5:=hid (((HB3.out.setCell (p:=⟨w1.heap.size,0,none⟩) (by have:=HC3.out.gt;show w.heap.size≤w1.heap.size;omega) (.int .i64 0)).setCell (p:=⟨w1.heap.size,1,none⟩) (by have:=HC3.out.gt;show w.heap.size≤w1.heap.size;omega) (.int .i64 0)).trans (hb4.mono (by have:=HB3.out.size;simpa using this)))
     clear hc4 hc5 hb4
     have k1:=(HB5.out.cell (p:=⟨bd,1,none⟩) hlt'.1).trans hdv
     have m0:=(HB5.out.cell (p:=⟨g,r*4,none⟩) hgl).trans e0
     have m1:=(HB5.out.cell (p:=⟨g,r*4+1,none⟩) hgl).trans e1
     have m2:=(HB5.out.cell (p:=⟨g,r*4+2,none⟩) hgl).trans e2
     have m3:=(HB5.out.cell (p:=⟨g,r*4+3,none⟩) hgl).trans e3
     have hz4:=HB5.out.size
     have hbd4:bd<w4.heap.size:=by omega
     have hg4:g<w4.heap.size:=by omega
     have hnp:¬ w4.heap.size=w.heap.size:=by omega
     rw[h1b])
  | (go_at_call 124;refine(Zy 0 0 _).mono ?_;rintro e w2 ⟨rfl,hb2⟩
     obtain⟨hc2,hB2⟩:=Bx.first HB1.out hb2
     obtain⟨⟨a0,a1⟩,-,⟨cf0,cf1⟩⟩:=hc2.cells
     have hgt:=hc2.gt
     have hpl:=Zc hc2.p
     have HC2:=hid hc2
     have HB2:=hid hB2
     clear hb2 hc2 hB2
     rw[h1b]))
 have HB6:=hid (HB5.out.alloc HB5.out.size (.cells #[.int .i64 (n2:Int),.int .i64 (k2:Int),.int .i64 (n:Int),.int .i64 (k:Int)] 79))
 have hc6:=HC5.out.below ((Below.refl _ w4).alloc (Nat.le_refl _) (.cells #[.int .i64 (n2:Int),.int .i64 (k2:Int),.int .i64 (n:Int),.int .i64 (k:Int)] 79))
 have HC6:=hid hc6
 have hsA:=heap_alloc_new w4 (.cells #[.int .i64 (n2:Int),.int .i64 (k2:Int),.int .i64 (n:Int),.int .i64 (k:Int)] 79)
 have HSA:=hid hsA
 have sz0:=Za hsA 0
 have sz1:=Za hsA 1
 have sz2:=Za hsA 2
 have sz3:=Za hsA 3
 have sf0:=Zd hsA 0
 have sf1:=Zd hsA 1
 have sf2:=Zd hsA 2
 have sf3:=Zd hsA 3
 clear hsA hc6
 go_quiet ((go_at_call 128;exact Calls.quiet_of_same (CT.out _ HB6.out _ (by first|exact hn|exact hn2) _)))
 have HB6q:=hid (Zj HB6.out nq)
 have HC6q:=hid (HC6.out.below (Zj (Below.refl _ _) nq))
 go_wp2_with (
  go_at_call 129;refine(CA.out _ HB6q.out).mono ?_;rintro e w6 ⟨rfl,hb6⟩
  have hB6:=HB6q.out.trans (hb6.mono HB6q.out.size)
  have hc6:=HC6q.out.below hb6
  obtain⟨⟨pb0,pb1⟩,-,-⟩:=hc6.cells
  have hsB:=(hb6.block w4.heap.size (Zc HSA.out)).trans HSA.out
  have ux0:=Za hsB 0
  have ux1:=Za hsB 1
  have ux2:=Za hsB 2
  have ux3:=Za hsB 3
  have vx0:=Zd hsB 0
  have vx1:=Zd hsB 1
  have vx2:=Zd hsB 2
  have vx3:=Zd hsB 3
  have hsl6:=Zc hsB
  have HSB:=hid hsB
  have HCX:=hid hc6
  have HBX:=hid hB6
  clear hsB hc6 hb6 hB6)
 obtain⟨W7,hW7⟩:∃ W7,((((w6.setCell ⟨w4.heap.size,0,none⟩ (.int .i64 (n:Int))).setCell ⟨w4.heap.size,1,none⟩ (.int .i64 (k:Int))).setCell ⟨w4.heap.size,2,none⟩ (.int .i64 (n:Int))).setCell ⟨w4.heap.size,3,none⟩ (.int .i64 (k:Int)))=W7:=⟨_,rfl⟩
 have hk7:Zb (fun b=>b=w4.heap.size) w6 W7:=by rw[← hW7];exact(((((Zb.refl (fun b=>b=w4.heap.size) w6).setCell (p:=⟨w4.heap.size,0,none⟩) (.inl rfl) (.int .i64 (n:Int))).setCell (p:=⟨w4.heap.size,1,none⟩) (.inl rfl) (.int .i64 (k:Int))).setCell (p:=⟨w4.heap.size,2,none⟩) (.inl rfl) (.int .i64 (n:Int))).setCell (p:=⟨w4.heap.size,3,none⟩) (.inl rfl) (.int .i64 (k:Int)))
 have hB7:Below w.heap.size w W7:=by rw[← hW7];exact((((HBX.out.setCell (p:=⟨w4.heap.size,0,none⟩) hz4 (.int .i64 (n:Int))).setCell (p:=⟨w4.heap.size,1,none⟩) hz4 (.int .i64 (k:Int))).setCell (p:=⟨w4.heap.size,2,none⟩) hz4 (.int .i64 (n:Int))).setCell (p:=⟨w4.heap.size,3,none⟩) hz4 (.int .i64 (k:Int)))
 have hs7:W7.heap[w4.heap.size]?=some (.cells #[.int .i64 (n:Int),.int .i64 (k:Int),.int .i64 (n:Int),.int .i64 (k:Int)] 79 (0,0)):=by
  rw[← hW7,heap_setCell_same _ w4.heap.size 3 _ _ _ (heap_setCell_same _ w4.heap.size 2 _ _ _ (heap_setCell_same _ w4.heap.size 1 _ _ _ (heap_setCell_same _ w4.heap.size 0 _ _ _ HSB.out)))]
  simp
 have hc7:=(HCX.out).keeps hk7 hfl4
 rw[hW7]
 obtain⟨-,⟨cy0,cy1⟩,⟨ch0,ch1⟩⟩:=hc7.cells
 obtain⟨⟨fy0,fy1⟩,-⟩:=hc7.frozen
 have hgt7:=hc7.gt
 have ty0:=Za hs7 0
 have ty1:=Za hs7 1
 have ty2:=Za hs7 2
 have ty3:=Za hs7 3
 obtain⟨q0,q1,q2,q3,qf⟩:=(HD.out.below hB7).spanAt HX.out HRV.out
 have qf0:=qf (r*4)
 have qf1:=qf (r*4+1)
 have qf2:=qf (r*4+2)
 have qf3:=qf (r*4+3)
 have k6:=(hB7.cell (p:=⟨bd,1,none⟩) hlt'.1).trans hdv
 have hgf:¬ w1.heap.size=g:=by omega
 have hgz:¬ w.heap.size+1=g:=by omega
 have hzf:¬ w.heap.size+1=w1.heap.size:=by omega
 have hzl7:=Zc hc7.z
 have HB7:=hid hB7
 have HG:=hid (And.intro hgl hgl)
 have HC7:=hid hc7
 clear ux0 ux1 ux2 ux3 vx0 vx1 vx2 vx3 hW7 hk7 hB7 hs7 hc7 qf sz0 sz1 sz2 sz3 sf0 sf1 sf2 sf3 pa0 pa1 cz0 cz1 cg0 cg1 fz0 fz1 m0 m1 m2 m3 k1 e0 e1 e2 e3 cy0 cy1 ch0 ch1 fy0 fy1
 go_region
 obtain⟨W8,hW8⟩:∃ W8,((((W7.setCell ⟨g,r*4,none⟩ (.int .i64 (n:Int))).setCell ⟨g,r*4+1,none⟩ (.int .i64 (k:Int))).setCell ⟨g,r*4+2,none⟩ (.int .i64 (n:Int))).setCell ⟨g,r*4+3,none⟩ (.int .i64 (k:Int))).drew=W8:=⟨_,rfl⟩
 have hD8:=((HD.out.narrow.below HB7.out).setAll HRV.out HX.out n k n k).drew
 have hk8:=(((((Zb.of_below (F:=F) HB7.out).setCell (p:=⟨g,r*4,none⟩) (.inl HFG.out) (.int .i64 (n:Int))).setCell (p:=⟨g,r*4+1,none⟩) (.inl HFG.out) (.int .i64 (k:Int))).setCell (p:=⟨g,r*4+2,none⟩) (.inl HFG.out) (.int .i64 (n:Int))).setCell (p:=⟨g,r*4+3,none⟩) (.inl HFG.out) (.int .i64 (k:Int))).drew
 have hk9:=(((((Zb.refl (fun b=>b=g) W7).setCell (p:=⟨g,r*4,none⟩) (.inl rfl) (.int .i64 (n:Int))).setCell (p:=⟨g,r*4+1,none⟩) (.inl rfl) (.int .i64 (k:Int))).setCell (p:=⟨g,r*4+2,none⟩) (.inl rfl) (.int .i64 (n:Int))).setCell (p:=⟨g,r*4+3,none⟩) (.inl rfl) (.int .i64 (k:Int))).drew
 rw[hW8] at hD8 hk8 hk9 ⊢
 have hc8:=HC7.out.above hk9 (fun b hb e=>by omega)
 obtain⟨-,⟨cy0,cy1⟩,⟨ch0,ch1⟩⟩:=hc8.cells
 obtain⟨⟨fy0,fy1⟩,-⟩:=hc8.frozen
 have hzl8:=Zc hc8.z
 have HD8:=hid hD8
 have HK8:=hid hk8
 clear hW8 hD8 hk8 hk9 hc8 q0 q1 q2 q3 qf0 qf1 qf2 qf3 k6 ty0 ty1 ty2 ty3
 go_wp2
 refine bodyPost_ret (v:=Zi 0 0) (by simp[results,Tryz.results130,go_sem,cy0,cy1,ch0,ch1,fy0,fy1,hzl8]) rfl ?_
 refine⟨rfl,(HK8.out.setCell (p:=⟨w.heap.size+1,0,none⟩) (.inr (Nat.le_succ _)) _).setCell (p:=⟨w.heap.size+1,1,none⟩) (.inr (Nat.le_succ _)) _,bn,cap,rn,rv,?_⟩
 refine(HD8.out.keeps (((Zb.refl (fun b=>b=w.heap.size+1) _).setCell (p:=⟨w.heap.size+1,0,none⟩) (.inl rfl) _).setCell (p:=⟨w.heap.size+1,1,none⟩) (.inl rfl) _) ?_).wider (fun b hb=>.inl hb.1)
 intro b hb e
 have:=hb.2
 omega
theorem rset_e3 (wf:WF s) {h:Nat→Nat} {B:Nat} (u:Up s h B) (hD:Zf w F bd bn cap rn rv s rs) (r:Nat) (x:Sp) (hx:rs[r]?=some x) (n k n2 k2:Nat) (hx2:x.a=(n2:Int)) (hx3:x.b=(k2:Int)) (tf:Nat→Nat) (htf:∀ m,m < s.length→Zm s m (tf m)) (hn:n < s.length) (hn2:n2 < s.length) (hf:Zs s n k=(0,0)) (he:tf n2=tf n) (qa qb:Int) (ha:ZJ (plF s (B+1) (tf n)) (n,k) qa) (hb:ZJ (plF s (B+1) (tf n)) (n2,k2) qb) (hlt:decide (qa < qb)=false) :
 Calls Tryz.prog 130 #[.pointer (some ⟨bd,0,none⟩),.int .i64 (r:Int),.agg #[.int .i64 (n:Int),.int .i64 (k:Int)],.bool false] w fun e w'=>e=.returned (Zi 0 0)∧Zb F w w'∧RDoc w' (fun b=>F b∨w.heap.size≤b) bd s (rs.set r ⟨n2,k2,n,k⟩):=by
 have hr:r<rs.length:=(List.getElem?_eq_some_iff.1 hx).1
 have CR:=hid (YU (hD.below (YT w n k 0)) r hr)
 have h1b:((0:Int) == 0)=true:=rfl
 have CG:=hid (fun w' (hb:Below w.heap.size w w')=>Yz (hD.below hb) n k)
 rw[hf] at CG
 have CT:=hid (fun w' (hb:Below w.heap.size w w') m (hm:m<s.length) q=>XB (w:=w'.drewN q) wf (hD.below (Zj hb q)) (htf m hm) hm)
 have CA:=hid (fun w' (hB:Below w.heap.size w w')=>X3 wf u (hD.below hB) (by first|exact hn|exact hn2) (htf n (by first|exact hn|exact hn2)) ha hb)
 rw[hlt] at CA
 have heI:((tf n2:Int) != (tf n:Int))=false:=by simp[he]
 obtain⟨g,c,hrve,hgl,hFg,hgd,hgn,e0,e1,e2,e3,hfr⟩:=hD.spanCells hx
 have hdv:=hD.rangesCell
 rw[hrve] at hdv
 have hlt':=hD.lt
 have HFR:=hid hfr
 have HX:=hid hx
 have HD:=hid hD
 have HRV:=hid hrve
 have HFG:=hid hFg
 rw[hx2] at e0;rw[hx3] at e1
 clear hD wf htf u hfr hx hrve ha hb hlt
 go_enter Tryz.func130,Tryz.ntmps130
 go_wp2_with (first
  | (go_at_call 131;refine CR.out.mono ?_;rintro e w1 ⟨rfl,hb1⟩
     have HB1:=hid hb1
     clear hb1)
  | (go_at_call 127;refine(CG.out w2 HB2.out).mono ?_;rintro e w3 ⟨rfl,hb3⟩
     have hc3:=HC2.out.below hb3
     obtain⟨-,-,⟨g0,g1⟩⟩:=hc3.cells
     obtain⟨-,⟨ff0,ff1⟩⟩:=hc3.frozen
     have HC3:=hid hc3
     have HB3:=hid (HB2.out.trans (hb3.mono HB2.out.size))
     clear hc3 hb3)
  | (go_at_call 124;have hc4:=HC3.out.put 0 0;refine(Zy 0 0 _).mono ?_;rintro e w4 ⟨rfl,hb4⟩
     have hc5:=hc4.below hb4
     obtain⟨⟨pa0,pa1⟩,⟨cz0,cz1⟩,⟨cg0,cg1⟩⟩:=hc5.cells
     obtain⟨⟨fz0,fz1⟩,-⟩:=hc5.frozen
     have hzl:=Zc hc5.z
     have hpl4:=Zc hc5.p
     have hfl4:=Zc hc5.f
     have HC5:=hid hc5
     have HB5:=hid (((HB3.out.setCell (p:=⟨w1.heap.size,0,none⟩) (by have:=HC3.out.gt;show w.heap.size≤w1.heap.size;omega) (.int .i64 0)).setCell (p:=⟨w1.heap.size,1,none⟩) (by have:=HC3.out.gt;show w.heap.size≤w1.heap.size;omega) (.int .i64 0)).trans (hb4.mono (by have:=HB3.out.size;simpa using this)))
     clear hc4 hc5 hb4
     have k1:=(HB5.out.cell (p:=⟨bd,1,none⟩) hlt'.1).trans hdv
     have m0:=(HB5.out.cell (p:=⟨g,r*4,none⟩) hgl).trans e0
     have m1:=(HB5.out.cell (p:=⟨g,r*4+1,none⟩) hgl).trans e1
     have m2:=(HB5.out.cell (p:=⟨g,r*4+2,none⟩) hgl).trans e2
     have m3:=(HB5.out.cell (p:=⟨g,r*4+3,none⟩) hgl).trans e3
     have hz4:=HB5.out.size
     have hbd4:bd<w4.heap.size:=by omega
     have hg4:g<w4.heap.size:=by omega
     have hnp:¬ w4.heap.size=w.heap.size:=by omega
     rw[h1b])
  | (go_at_call 124;refine(Zy 0 0 _).mono ?_;rintro e w2 ⟨rfl,hb2⟩
     obtain⟨hc2,hB2⟩:=Bx.first HB1.out hb2
     obtain⟨⟨a0,a1⟩,-,⟨cf0,cf1⟩⟩:=hc2.cells
     have hgt:=hc2.gt
     have hpl:=Zc hc2.p
     have HC2:=hid hc2
     have HB2:=hid hB2
     clear hb2 hc2 hB2
     rw[h1b]))
 have HB6:=hid (HB5.out.alloc HB5.out.size (.cells #[.int .i64 (n2:Int),.int .i64 (k2:Int),.int .i64 (n:Int),.int .i64 (k:Int)] 79))
 have hc6:=HC5.out.below ((Below.refl _ w4).alloc (Nat.le_refl _) (.cells #[.int .i64 (n2:Int),.int .i64 (k2:Int),.int .i64 (n:Int),.int .i64 (k:Int)] 79))
 have HC6:=hid hc6
 have hsA:=heap_alloc_new w4 (.cells #[.int .i64 (n2:Int),.int .i64 (k2:Int),.int .i64 (n:Int),.int .i64 (k:Int)] 79)
 have HSA:=hid hsA
 have sz0:=Za hsA 0
 have sz1:=Za hsA 1
 have sz2:=Za hsA 2
 have sz3:=Za hsA 3
 have sf0:=Zd hsA 0
 have sf1:=Zd hsA 1
 have sf2:=Zd hsA 2
 have sf3:=Zd hsA 3
 clear hsA hc6
 go_quiet ((go_at_call 128;exact Calls.quiet_of_same (CT.out _ HB6.out _ (by first|exact hn|exact hn2) _)))
 have HB6q:=hid (Zj HB6.out nq)
 have HC6q:=hid (HC6.out.below (Zj (Below.refl _ _) nq))
 go_wp2_with (
  go_at_call 129;refine(CA.out _ HB6q.out).mono ?_;rintro e w6 ⟨rfl,hb6⟩
  have hB6:=HB6q.out.trans (hb6.mono HB6q.out.size)
  have hc6:=HC6q.out.below hb6
  obtain⟨⟨pb0,pb1⟩,-,-⟩:=hc6.cells
  have hsB:=(hb6.block w4.heap.size (Zc HSA.out)).trans HSA.out
  have ux0:=Za hsB 0
  have ux1:=Za hsB 1
  have ux2:=Za hsB 2
  have ux3:=Za hsB 3
  have vx0:=Zd hsB 0
  have vx1:=Zd hsB 1
  have vx2:=Zd hsB 2
  have vx3:=Zd hsB 3
  have hsl6:=Zc hsB
  have HSB:=hid hsB
  have HCX:=hid hc6
  have HBX:=hid hB6
  clear hsB hc6 hb6 hB6)
 obtain⟨W7,hW7⟩:∃ W7,w6=W7:=⟨_,rfl⟩
 have hk7:Zb (fun b=>b=w4.heap.size) w6 W7:=by rw[← hW7];exact Zb.refl _ _
 have hB7:Below w.heap.size w W7:=by rw[← hW7];exact HBX.out
 have hs7:W7.heap[w4.heap.size]?=some (.cells #[.int .i64 (n2:Int),.int .i64 (k2:Int),.int .i64 (n:Int),.int .i64 (k:Int)] 79 (0,0)):=by rw[← hW7];exact HSB.out
 have hc7:=(HCX.out).keeps hk7 hfl4
 rw[hW7]
 obtain⟨-,⟨cy0,cy1⟩,⟨ch0,ch1⟩⟩:=hc7.cells
 obtain⟨⟨fy0,fy1⟩,-⟩:=hc7.frozen
 have hgt7:=hc7.gt
 have ty0:=Za hs7 0
 have ty1:=Za hs7 1
 have ty2:=Za hs7 2
 have ty3:=Za hs7 3
 obtain⟨q0,q1,q2,q3,qf⟩:=(HD.out.below hB7).spanAt HX.out HRV.out
 have qf0:=qf (r*4)
 have qf1:=qf (r*4+1)
 have qf2:=qf (r*4+2)
 have qf3:=qf (r*4+3)
 have k6:=(hB7.cell (p:=⟨bd,1,none⟩) hlt'.1).trans hdv
 have hgf:¬ w1.heap.size=g:=by omega
 have hgz:¬ w.heap.size+1=g:=by omega
 have hzf:¬ w.heap.size+1=w1.heap.size:=by omega
 have hzl7:=Zc hc7.z
 have HB7:=hid hB7
 have HG:=hid (And.intro hgl hgl)
 have HC7:=hid hc7
 clear ux0 ux1 ux2 ux3 vx0 vx1 vx2 vx3 hW7 hk7 hB7 hs7 hc7 qf sz0 sz1 sz2 sz3 sf0 sf1 sf2 sf3 pa0 pa1 cz0 cz1 cg0 cg1 fz0 fz1 m0 m1 m2 m3 k1 e0 e1 e2 e3 cy0 cy1 ch0 ch1 fy0 fy1
 go_region
 obtain⟨W8,hW8⟩:∃ W8,((((W7.setCell ⟨g,r*4,none⟩ (.int .i64 (n2:Int))).setCell ⟨g,r*4+1,none⟩ (.int .i64 (k2:Int))).setCell ⟨g,r*4+2,none⟩ (.int .i64 (n:Int))).setCell ⟨g,r*4+3,none⟩ (.int .i64 (k:Int))).drew=W8:=⟨_,rfl⟩
 have hD8:=((HD.out.narrow.below HB7.out).setAll HRV.out HX.out n2 k2 n k).drew
 have hk8:=(((((Zb.of_below (F:=F) HB7.out).setCell (p:=⟨g,r*4,none⟩) (.inl HFG.out) (.int .i64 (n2:Int))).setCell (p:=⟨g,r*4+1,none⟩) (.inl HFG.out) (.int .i64 (k2:Int))).setCell (p:=⟨g,r*4+2,none⟩) (.inl HFG.out) (.int .i64 (n:Int))).setCell (p:=⟨g,r*4+3,none⟩) (.inl HFG.out) (.int .i64 (k:Int))).drew
 have hk9:=(((((Zb.refl (fun b=>b=g) W7).setCell (p:=⟨g,r*4,none⟩) (.inl rfl) (.int .i64 (n2:Int))).setCell (p:=⟨g,r*4+1,none⟩) (.inl rfl) (.int .i64 (k2:Int))).setCell (p:=⟨g,r*4+2,none⟩) (.inl rfl) (.int .i64 (n:Int))).setCell (p:=⟨g,r*4+3,none⟩) (.inl rfl) (.int .i64 (k:Int))).drew
 rw[hW8] at hD8 hk8 hk9 ⊢
 have hc8:=HC7.out.above hk9 (fun b hb e=>by omega)
 obtain⟨-,⟨cy0,cy1⟩,⟨ch0,ch1⟩⟩:=hc8.cells
 obtain⟨⟨fy0,fy1⟩,-⟩:=hc8.frozen
 have hzl8:=Zc hc8.z
 have HD8:=hid hD8
 have HK8:=hid hk8
 clear hW8 hD8 hk8 hk9 hc8 q0 q1 q2 q3 qf0 qf1 qf2 qf3 k6 ty0 ty1 ty2 ty3
 go_wp2
 refine bodyPost_ret (v:=Zi 0 0) (by simp[results,Tryz.results130,go_sem,cy0,cy1,ch0,ch1,fy0,fy1,hzl8]) rfl ?_
 refine⟨rfl,(HK8.out.setCell (p:=⟨w.heap.size+1,0,none⟩) (.inr (Nat.le_succ _)) _).setCell (p:=⟨w.heap.size+1,1,none⟩) (.inr (Nat.le_succ _)) _,bn,cap,rn,rv,?_⟩
 refine(HD8.out.keeps (((Zb.refl (fun b=>b=w.heap.size+1) _).setCell (p:=⟨w.heap.size+1,0,none⟩) (.inl rfl) _).setCell (p:=⟨w.heap.size+1,1,none⟩) (.inl rfl) _) ?_).wider (fun b hb=>.inl hb.1)
 intro b hb e
 have:=hb.2
 omega
end
end
end Go.Proofs.YtabogkonklplcaaGreatDoor
