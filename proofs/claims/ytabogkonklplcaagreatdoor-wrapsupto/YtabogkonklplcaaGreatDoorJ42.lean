import Derived.Test.YtabogkonklplcaaGreatDoorJ36
import Derived.Test.YtabogkonklplcaaGreatDoorJ21
import Derived.Test.YtabogkonklplcaaGreatDoorJ41
namespace Go.Proofs.YtabogkonklplcaaGreatDoor
set_option linter.unusedSimpArgs false
set_option linter.unusedVariables false
set_option maxRecDepth 20000
set_option maxHeartbeats 8000000
section
open Go.RowKit
structure Wi (w:World) (W:Nat) (a b c d p0 p1:Int):Prop where
 s:w.heap[W]?=some (.cells #[.int .i64 a,.int .i64 b,.int .i64 c,.int .i64 d] 79 (0,0))
 p:w.heap[W+1]?=some (.cells #[.int .i64 p0,.int .i64 p1] 37 (0,0))
abbrev wi0 (w:World) (a b c d p0 p1:Int):World:=(w.alloc (.cells #[.int .i64 a,.int .i64 b,.int .i64 c,.int .i64 d] 79)).alloc (.cells #[.int .i64 p0,.int .i64 p1] 37)
theorem Za8 (w:World) (a b c d p0 p1:Int):Below w.heap.size w (wi0 w a b c d p0 p1):=((Below.refl _ w).alloc (Nat.le_refl _) _).alloc (by simp) _
theorem Za7 (w:World) (a b c d p0 p1:Int):Wi (wi0 w a b c d p0 p1) w.heap.size a b c d p0 p1:=by
 constructor
 · rw[Below.heap_alloc _ _ _ (by simp),heap_alloc_new]
 · have:=heap_alloc_new (w.alloc (.cells #[.int .i64 a,.int .i64 b,.int .i64 c,.int .i64 d] 79)) (.cells #[.int .i64 p0,.int .i64 p1] 37)
   simpa using this
theorem Wi.below {w w':World} {W:Nat} {a b c d p0 p1:Int} (h:Wi w W a b c d p0 p1) (hb:Below w.heap.size w w'):Wi w' W a b c d p0 p1:=⟨(hb.block _ (Zc h.s)).trans h.s,(hb.block _ (Zc h.p)).trans h.p⟩
theorem Wi.cells {w:World} {W:Nat} {a b c d p0 p1:Int} (h:Wi w W a b c d p0 p1):w.cell? ⟨W,0,none⟩=some (.int .i64 a)∧w.cell? ⟨W,1,none⟩=some (.int .i64 b)∧w.cell? ⟨W,2,none⟩=some (.int .i64 c)∧w.cell? ⟨W,3,none⟩=some (.int .i64 d)∧w.cell? ⟨W+1,0,none⟩=some (.int .i64 p0)∧w.cell? ⟨W+1,1,none⟩=some (.int .i64 p1) :=
 ⟨Za h.s 0,Za h.s 1,Za h.s 2,Za h.s 3,Za h.p 0,Za h.p 1⟩
section
variable {w:World} {F:Nat→Prop} {bx bf bl:Nat} {sv:Value} {s:List Nd} {rs:List Sp}
theorem Zk.spanAt (hD:Zk w F bx bf bl sv ⟨s,rs⟩) {r g c n:Nat} {x:Sp} (hx:rs[r]?=some x) (hv:sv=.slice (some ⟨g,0,none⟩) n c):w.cell? ⟨g,r * 4,none⟩=some (.int .i64 x.a)∧w.cell? ⟨g,r * 4+1,none⟩=some (.int .i64 x.b)∧w.cell? ⟨g,r * 4+2,none⟩=some (.int .i64 x.c)∧w.cell? ⟨g,r * 4+3,none⟩=some (.int .i64 x.d)∧(∀ o,w.frozen? ⟨g,o,none⟩=false):=by
 obtain⟨g',c',hv',_,h0,h1,h2,h3⟩:=hD.spanCells hx
 rw[hv] at hv'
 cases hv'
 have hrow:=hD.spans
 rw[hv] at hrow
 exact⟨h0,h1,h2,h3,fun o=>hrow.frozenAt o⟩
theorem Zk.grown {w0:World} {st:St} (h:Zk w0 F bx bf bl sv st) (w:World):Zk w0 (grow F w) bx bf bl sv st :=
 ⟨.inl h.Fx,h.Hx,h.doc,.inl h.Fl,h.Hl,h.ne,h.list,h.spans,fun b e=>⟨.inl (h.apart b e).1,(h.apart b e).2⟩,h.nodes.wider (fun b hb=>⟨.inl hb.1,hb.2⟩)⟩
theorem Zk.setAll (h:Zk w F bx bf bl sv ⟨s,rs⟩) {q g c:Nat} (hrv:sv=.slice (some ⟨g,0,none⟩) rs.length c) {r:Sp} (hr:rs[q]?=some r) (v0 v1 v2 v3:Int) :
 Zk ((((w.setCell ⟨g,q*4,none⟩ (.int .i64 v0)).setCell ⟨g,q*4+1,none⟩ (.int .i64 v1)).setCell ⟨g,q*4+2,none⟩ (.int .i64 v2)).setCell ⟨g,q*4+3,none⟩ (.int .i64 v3)) F bx bf bl sv ⟨s,rs.set q ⟨v0,v1,v2,v3⟩⟩:=by
 have hq:=(List.getElem?_eq_some_iff.1 hr).1
 have hrow:=h.spans
 simp only at hrow
 rw[hrv] at hrow
 have d0:=XA hrow hr (r':=⟨v0,r.b,r.c,r.d⟩) 0 (by omega) (.int .i64 v0) rfl
 have d1:=XA d0 (List.getElem?_set_self hq) (r':=⟨v0,v1,r.c,r.d⟩) 1 (by omega) (.int .i64 v1) rfl
 rw[List.set_set] at d1
 have d2:=XA d1 (List.getElem?_set_self hq) (r':=⟨v0,v1,v2,r.d⟩) 2 (by omega) (.int .i64 v2) rfl
 rw[List.set_set] at d2
 have d3:=XA d2 (List.getElem?_set_self hq) (r':=⟨v0,v1,v2,v3⟩) 3 (by omega) (.int .i64 v3) rfl
 rw[List.set_set] at d3
 have hg:sv.ownBlock=some g:=by rw[hrv];rfl
 refine h.moved (rs':=rs.set q ⟨v0,v1,v2,v3⟩) ((((Zb.refl (fun b=>sv.ownBlock=some b) w).setCell (p:=⟨g,q*4,none⟩) (.inl hg) (.int .i64 v0)).setCell (p:=⟨g,q*4+1,none⟩) (.inl hg) (.int .i64 v1)).setCell (p:=⟨g,q*4+2,none⟩) (.inl hg) (.int .i64 v2) |>.setCell (p:=⟨g,q*4+3,none⟩) (.inl hg) (.int .i64 v3)) ?_
 rw[hrv,List.length_set]
 exact d3
theorem ZdB (hD:Zk w F bx bf bl sv ⟨s,rs⟩) (r:Nat) (x:Sp) (hx:rs[r]?=some x) (a b c d p0 p1:Int) (u:Value)
 (hC:∀ W,Below w.heap.size w W→Calls Tryz.prog 62 #[ptr bf,.agg #[.int .i64 a,.int .i64 b],.agg #[.int .i64 c,.int .i64 d]] W fun e w'=>e=.returned (.tuple #[.int .i64 0,.iface 145 u])∧Below W.heap.size W w')
 (hI:∀ W,Calls Tryz.prog 22 #[.iface 145 u,.iface 30 (.int .i64 9)] W fun e w'=>e=.returned (.bool false)∧Below W.heap.size W w') :
 Calls Tryz.prog 111 #[ptr bl,.int .i64 (r:Int),spV ⟨a,b,c,d⟩,.agg #[.int .i64 p0,.int .i64 p1]] w fun e w'=>e=.returned (.iface 145 u)∧Below w.heap.size w w':=by
 have hr:r<rs.length:=(List.getElem?_eq_some_iff.1 hx).1
 have c0:w.cell? ⟨bl,0,none⟩=some (ptr bf):=Za hD.list 0
 have c1:w.cell? ⟨bl,1,none⟩=some sv:=Za hD.list 1
 have hll:=Zc hD.list
 obtain⟨g,cp,hsv,hgl,e0,e1,e2,e3⟩:=hD.spanCells hx
 rw[hsv] at c1
 have HB:=hid (Za8 w a b c d p0 p1)
 have hwi:=Za7 w a b c d p0 p1
 obtain⟨y0,y1,y2,y3,y4,y5⟩:=hwi.cells
 have C1:=hid (hC _ HB.out.drew)
 have HWI:=hid hwi
 have HSV:=hid hsv
 have HX:=hid hx
 have HD:=hid hD
 have hbg:¬ bl=g:=fun e=>(hD.apart g (by rw[hsv];rfl)).2.2.2 e.symm
 have CI:=hid hI
 clear hD hC hwi hsv hx hI
 go_enter Tryz.func111,Tryz.ntmps111
 go_wp2
 go_region_held3 (fun w'=>w'.cell? ⟨bl,0,none⟩=some (ptr bf)∧w'.cell? ⟨w.heap.size,0,none⟩=some (.int .i64 a)∧w'.cell? ⟨w.heap.size,1,none⟩=some (.int .i64 b)∧w'.cell? ⟨w.heap.size,2,none⟩=some (.int .i64 c)∧w'.cell? ⟨w.heap.size,3,none⟩=some (.int .i64 d)) (first|exact KP1.out|go_keep) ((
  go_at_call 62
  refine C1.out.mono ?_
  rintro e w1 ⟨rfl,hb1⟩
  have hB1:Below (wi0 w a b c d p0 p1).heap.size (wi0 w a b c d p0 p1) w1:=⟨hb1.os,hb1.tape,hb1.output,hb1.size,hb1.block⟩
  have hw1:=HWI.out.below hB1
  have HB1:=hid (HB.out.trans (hB1.mono HB.out.size))
  obtain⟨z0,z1,z2,z3,z4,z5⟩:=hw1.cells
  have KP1:=hid (And.intro ((HB1.out.cell (p:=⟨bl,0,none⟩) hll).trans c0) (And.intro z0 (And.intro z1 (And.intro z2 z3))))
  have HW1:=hid hw1
  clear hb1 hB1 hw1 z0 z1 z2 z3 z4 z5))
 all_goals
  go_wp2_with (
   go_at_call 22;refine(CI.out _).mono ?_;rintro e w2 ⟨rfl,hb2⟩
   have HB2:=hid (HB1.out.trans (hb2.mono HB1.out.size))
   have hw2x:=HW1.out.below hb2
   obtain⟨z0,z1,z2,z3,z4,z5⟩:=hw2x.cells
   have hpl:=Zc hw2x.p
   obtain⟨q0,q1,q2,q3,qf⟩:=(HD.out.below HB2.out).spanAt HX.out HSV.out
   have qf0:=qf (r*4)
   have qf1:=qf (r*4+1)
   have qf2:=qf (r*4+2)
   have qf3:=qf (r*4+3)
   have k1:=(HB2.out.cell (p:=⟨bl,1,none⟩) hll).trans c1
   skip
   clear hb2 hw2x qf)
  go_ret
  exact⟨rfl,HB2.out⟩
theorem ZdC (hD:Zk w F bx bf bl sv ⟨s,rs⟩) (r:Nat) (x:Sp) (hx:rs[r]?=some x) (a b c d p0 p1:Int) (y:Int)
 (hC:∀ W,Below w.heap.size w W→Calls Tryz.prog 62 #[ptr bf,.agg #[.int .i64 a,.int .i64 b],.agg #[.int .i64 c,.int .i64 d]] W fun e w'=>e=.returned (.tuple #[.int .i64 0,ZO y 9])∧Below W.heap.size W w') :
 Calls Tryz.prog 111 #[ptr bl,.int .i64 (r:Int),spV ⟨a,b,c,d⟩,.agg #[.int .i64 p0,.int .i64 p1]] w fun e w'=>e=.returned .nilIface∧Zb F w w'∧Zk w' (grow F w) bx bf bl sv ⟨s,rs.set r ⟨p0,p1,p0,p1⟩⟩:=by
 have hr:r<rs.length:=(List.getElem?_eq_some_iff.1 hx).1
 have c0:w.cell? ⟨bl,0,none⟩=some (ptr bf):=Za hD.list 0
 have c1:w.cell? ⟨bl,1,none⟩=some sv:=Za hD.list 1
 have hll:=Zc hD.list
 obtain⟨g,cp,hsv,hgl,e0,e1,e2,e3⟩:=hD.spanCells hx
 rw[hsv] at c1
 have HB:=hid (Za8 w a b c d p0 p1)
 have hwi:=Za7 w a b c d p0 p1
 obtain⟨y0,y1,y2,y3,y4,y5⟩:=hwi.cells
 have C1:=hid (hC _ HB.out.drew)
 have HWI:=hid hwi
 have HSV:=hid hsv
 have HX:=hid hx
 have HD:=hid hD
 have hbg:¬ bl=g:=fun e=>(hD.apart g (by rw[hsv];rfl)).2.2.2 e.symm
 skip
 clear hD hC hwi hsv hx
 go_enter Tryz.func111,Tryz.ntmps111
 go_wp2
 go_region_held3 (fun w'=>w'.cell? ⟨bl,0,none⟩=some (ptr bf)∧w'.cell? ⟨w.heap.size,0,none⟩=some (.int .i64 a)∧w'.cell? ⟨w.heap.size,1,none⟩=some (.int .i64 b)∧w'.cell? ⟨w.heap.size,2,none⟩=some (.int .i64 c)∧w'.cell? ⟨w.heap.size,3,none⟩=some (.int .i64 d)) (first|exact KP1.out|go_keep) ((
  go_at_call 62
  refine C1.out.mono ?_
  rintro e w1 ⟨rfl,hb1⟩
  have hB1:Below (wi0 w a b c d p0 p1).heap.size (wi0 w a b c d p0 p1) w1:=⟨hb1.os,hb1.tape,hb1.output,hb1.size,hb1.block⟩
  have hw1:=HWI.out.below hB1
  have HB1:=hid (HB.out.trans (hB1.mono HB.out.size))
  obtain⟨z0,z1,z2,z3,z4,z5⟩:=hw1.cells
  have KP1:=hid (And.intro ((HB1.out.cell (p:=⟨bl,0,none⟩) hll).trans c0) (And.intro z0 (And.intro z1 (And.intro z2 z3))))
  have HW1:=hid hw1
  clear hb1 hB1 hw1 z0 z1 z2 z3 z4 z5))
 all_goals
  go_wp2_with (
   go_at_call 22;refine(Zf9 y 9 9 (fun w=>by kernel_rfl) _).mono ?_;rintro e w2 ⟨rfl,hb2⟩
   have HB2:=hid (HB1.out.trans (hb2.mono HB1.out.size))
   have hw2x:=HW1.out.below hb2
   obtain⟨z0,z1,z2,z3,z4,z5⟩:=hw2x.cells
   have hpl:=Zc hw2x.p
   obtain⟨q0,q1,q2,q3,qf⟩:=(HD.out.below HB2.out).spanAt HX.out HSV.out
   have qf0:=qf (r*4)
   have qf1:=qf (r*4+1)
   have qf2:=qf (r*4+2)
   have qf3:=qf (r*4+3)
   have k1:=(HB2.out.cell (p:=⟨bl,1,none⟩) hll).trans c1
   skip
   clear hb2 hw2x qf)
  go_region
  go_wp2
  go_ret
  have hk:Zb F w w2:=Zb.of_below HB2.out
  have hFg:F g:=(HD.out.apart g (by rw[HSV.out];rfl)).1
  have hd:=((HD.out.below HB2.out).setAll HSV.out HX.out p0 p1 p0 p1)
  exact⟨rfl,(((((hk.setCell (p:=⟨g,r*4,none⟩) (.inl hFg) _).setCell (p:=⟨g,r*4+1,none⟩) (.inl hFg) _).setCell (p:=⟨g,r*4+2,none⟩) (.inl hFg) _).setCell (p:=⟨g,r*4+3,none⟩) (.inl hFg) _).drew),(hd.below (Zj (Below.refl _ _) 1)).grown w⟩
theorem Zdz (hD:Zk w F bx bf bl sv ⟨s,rs⟩) (r:Nat) (x:Sp) (hx:rs[r]?=some x) (a b c d p0 p1:Int) (o:Int) (ho:0 < o)
 (hC:∀ W,Below w.heap.size w W→Calls Tryz.prog 62 #[ptr bf,.agg #[.int .i64 a,.int .i64 b],.agg #[.int .i64 c,.int .i64 d]] W fun e w'=>e=.returned (.tuple #[.int .i64 o,.nilIface])∧Below W.heap.size W w') :
 Calls Tryz.prog 111 #[ptr bl,.int .i64 (r:Int),spV ⟨a,b,c,d⟩,.agg #[.int .i64 p0,.int .i64 p1]] w fun e w'=>e=.returned .nilIface∧Zb F w w'∧Zk w' (grow F w) bx bf bl sv ⟨s,rs.set r ⟨p0,p1,p0,p1⟩⟩:=by
 have hr:r<rs.length:=(List.getElem?_eq_some_iff.1 hx).1
 have c0:w.cell? ⟨bl,0,none⟩=some (ptr bf):=Za hD.list 0
 have c1:w.cell? ⟨bl,1,none⟩=some sv:=Za hD.list 1
 have hll:=Zc hD.list
 obtain⟨g,cp,hsv,hgl,e0,e1,e2,e3⟩:=hD.spanCells hx
 rw[hsv] at c1
 have HB:=hid (Za8 w a b c d p0 p1)
 have hwi:=Za7 w a b c d p0 p1
 obtain⟨y0,y1,y2,y3,y4,y5⟩:=hwi.cells
 have C1:=hid (hC _ HB.out.drew)
 have HWI:=hid hwi
 have HSV:=hid hsv
 have HX:=hid hx
 have HD:=hid hD
 have hbg:¬ bl=g:=fun e=>(hD.apart g (by rw[hsv];rfl)).2.2.2 e.symm
 have ho1:decide (0<o)=true:=decide_eq_true ho
 skip
 clear hD hC hwi hsv hx
 go_enter Tryz.func111,Tryz.ntmps111
 go_wp2
 go_region_held3 (fun w'=>w'.cell? ⟨bl,0,none⟩=some (ptr bf)∧w'.cell? ⟨w.heap.size,0,none⟩=some (.int .i64 a)∧w'.cell? ⟨w.heap.size,1,none⟩=some (.int .i64 b)∧w'.cell? ⟨w.heap.size,2,none⟩=some (.int .i64 c)∧w'.cell? ⟨w.heap.size,3,none⟩=some (.int .i64 d)) (first|exact KP1.out|go_keep) ((
  go_at_call 62
  refine C1.out.mono ?_
  rintro e w1 ⟨rfl,hb1⟩
  have hB1:Below (wi0 w a b c d p0 p1).heap.size (wi0 w a b c d p0 p1) w1:=⟨hb1.os,hb1.tape,hb1.output,hb1.size,hb1.block⟩
  have hw1:=HWI.out.below hB1
  have HB1:=hid (HB.out.trans (hB1.mono HB.out.size))
  obtain⟨z0,z1,z2,z3,z4,z5⟩:=hw1.cells
  have KP1:=hid (And.intro ((HB1.out.cell (p:=⟨bl,0,none⟩) hll).trans c0) (And.intro z0 (And.intro z1 (And.intro z2 z3))))
  have HW1:=hid hw1
  clear hb1 hB1 hw1 z0 z1 z2 z3 z4 z5))
 all_goals
  go_wp2_with (
   go_at_call 22;refine(JY 9 _).mono ?_;rintro e w2' ⟨rfl,hw2⟩;obtain⟨w2,hw2'⟩:∃ w2,w2'=w2:=⟨_,rfl⟩;have hb2:Below w1.heap.size w1 w2:=by rw[← hw2',hw2];exact Below.refl _ _
   have HB2:=hid (HB1.out.trans (hb2.mono HB1.out.size))
   have hw2x:=HW1.out.below hb2
   obtain⟨z0,z1,z2,z3,z4,z5⟩:=hw2x.cells
   have hpl:=Zc hw2x.p
   obtain⟨q0,q1,q2,q3,qf⟩:=(HD.out.below HB2.out).spanAt HX.out HSV.out
   have qf0:=qf (r*4)
   have qf1:=qf (r*4+1)
   have qf2:=qf (r*4+2)
   have qf3:=qf (r*4+3)
   have k1:=(HB2.out.cell (p:=⟨bl,1,none⟩) hll).trans c1
   rw[hw2']
   clear hb2 hw2x qf hw2 hw2')
  go_region
  go_wp2
  go_ret
  have hk:Zb F w w2:=Zb.of_below HB2.out
  have hFg:F g:=(HD.out.apart g (by rw[HSV.out];rfl)).1
  have hd:=((HD.out.below HB2.out).setAll HSV.out HX.out p0 p1 p0 p1)
  exact⟨rfl,(((((hk.setCell (p:=⟨g,r*4,none⟩) (.inl hFg) _).setCell (p:=⟨g,r*4+1,none⟩) (.inl hFg) _).setCell (p:=⟨g,r*4+2,none⟩) (.inl hFg) _).setCell (p:=⟨g,r*4+3,none⟩) (.inl hFg) _).drew),(hd.below (Zj (Below.refl _ _) 1)).grown w⟩
theorem ZdA (hD:Zk w F bx bf bl sv ⟨s,rs⟩) (r:Nat) (x:Sp) (hx:rs[r]?=some x) (a b c d p0 p1:Int) (o:Int) (ho:¬ 0 < o)
 (hC:∀ W,Below w.heap.size w W→Calls Tryz.prog 62 #[ptr bf,.agg #[.int .i64 a,.int .i64 b],.agg #[.int .i64 c,.int .i64 d]] W fun e w'=>e=.returned (.tuple #[.int .i64 o,.nilIface])∧Below W.heap.size W w') :
 Calls Tryz.prog 111 #[ptr bl,.int .i64 (r:Int),spV ⟨a,b,c,d⟩,.agg #[.int .i64 p0,.int .i64 p1]] w fun e w'=>e=.returned .nilIface∧Zb F w w'∧Zk w' (grow F w) bx bf bl sv ⟨s,rs.set r ⟨a,b,c,d⟩⟩:=by
 have hr:r<rs.length:=(List.getElem?_eq_some_iff.1 hx).1
 have c0:w.cell? ⟨bl,0,none⟩=some (ptr bf):=Za hD.list 0
 have c1:w.cell? ⟨bl,1,none⟩=some sv:=Za hD.list 1
 have hll:=Zc hD.list
 obtain⟨g,cp,hsv,hgl,e0,e1,e2,e3⟩:=hD.spanCells hx
 rw[hsv] at c1
 have HB:=hid (Za8 w a b c d p0 p1)
 have hwi:=Za7 w a b c d p0 p1
 obtain⟨y0,y1,y2,y3,y4,y5⟩:=hwi.cells
 have C1:=hid (hC _ HB.out.drew)
 have HWI:=hid hwi
 have HSV:=hid hsv
 have HX:=hid hx
 have HD:=hid hD
 have hbg:¬ bl=g:=fun e=>(hD.apart g (by rw[hsv];rfl)).2.2.2 e.symm
 have ho1:decide (0<o)=false:=decide_eq_false ho
 skip
 clear hD hC hwi hsv hx
 go_enter Tryz.func111,Tryz.ntmps111
 go_wp2
 go_region_held3 (fun w'=>w'.cell? ⟨bl,0,none⟩=some (ptr bf)∧w'.cell? ⟨w.heap.size,0,none⟩=some (.int .i64 a)∧w'.cell? ⟨w.heap.size,1,none⟩=some (.int .i64 b)∧w'.cell? ⟨w.heap.size,2,none⟩=some (.int .i64 c)∧w'.cell? ⟨w.heap.size,3,none⟩=some (.int .i64 d)) (first|exact KP1.out|go_keep) ((
  go_at_call 62
  refine C1.out.mono ?_
  rintro e w1 ⟨rfl,hb1⟩
  have hB1:Below (wi0 w a b c d p0 p1).heap.size (wi0 w a b c d p0 p1) w1:=⟨hb1.os,hb1.tape,hb1.output,hb1.size,hb1.block⟩
  have hw1:=HWI.out.below hB1
  have HB1:=hid (HB.out.trans (hB1.mono HB.out.size))
  obtain⟨z0,z1,z2,z3,z4,z5⟩:=hw1.cells
  have KP1:=hid (And.intro ((HB1.out.cell (p:=⟨bl,0,none⟩) hll).trans c0) (And.intro z0 (And.intro z1 (And.intro z2 z3))))
  have HW1:=hid hw1
  clear hb1 hB1 hw1 z0 z1 z2 z3 z4 z5))
 all_goals
  go_wp2_with (
   go_at_call 22;refine(JY 9 _).mono ?_;rintro e w2' ⟨rfl,hw2⟩;obtain⟨w2,hw2'⟩:∃ w2,w2'=w2:=⟨_,rfl⟩;have hb2:Below w1.heap.size w1 w2:=by rw[← hw2',hw2];exact Below.refl _ _
   have HB2:=hid (HB1.out.trans (hb2.mono HB1.out.size))
   have hw2x:=HW1.out.below hb2
   obtain⟨z0,z1,z2,z3,z4,z5⟩:=hw2x.cells
   have hpl:=Zc hw2x.p
   obtain⟨q0,q1,q2,q3,qf⟩:=(HD.out.below HB2.out).spanAt HX.out HSV.out
   have qf0:=qf (r*4)
   have qf1:=qf (r*4+1)
   have qf2:=qf (r*4+2)
   have qf3:=qf (r*4+3)
   have k1:=(HB2.out.cell (p:=⟨bl,1,none⟩) hll).trans c1
   rw[hw2']
   clear hb2 hw2x qf hw2 hw2')
  go_region
  go_wp2
  go_ret
  have hk:Zb F w w2:=Zb.of_below HB2.out
  have hFg:F g:=(HD.out.apart g (by rw[HSV.out];rfl)).1
  have hd:=((HD.out.below HB2.out).setAll HSV.out HX.out a b c d)
  exact⟨rfl,(((((hk.setCell (p:=⟨g,r*4,none⟩) (.inl hFg) _).setCell (p:=⟨g,r*4+1,none⟩) (.inl hFg) _).setCell (p:=⟨g,r*4+2,none⟩) (.inl hFg) _).setCell (p:=⟨g,r*4+3,none⟩) (.inl hFg) _).drew),(hd.below (Zj (Below.refl _ _) 1)).grown w⟩
end
end
end Go.Proofs.YtabogkonklplcaaGreatDoor
