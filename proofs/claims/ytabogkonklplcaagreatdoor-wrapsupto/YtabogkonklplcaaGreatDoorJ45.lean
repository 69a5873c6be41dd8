import Derived.Test.YtabogkonklplcaaGreatDoorJ42
import Derived.Test.YtabogkonklplcaaGreatDoorJ41
import Derived.Test.YtabogkonklplcaaGreatDoorJ25
import Derived.Test.YtabogkonklplcaaGreatDoorJ29
import Derived.Test.YtabogkonklplcaaGreatDoorJ40
import Derived.Test.YtabogkonklplcaaGreatDoorJ18
import Derived.Test.YtabogkonklplcaaGreatDoorJ19
import Derived.Stop.RegionWithIn
import Derived.Deep.RegionHeld3
import Derived.Test.YtabogkonklplcaaGreatDoorJ44
import Derived.Test.YtabogkonklplcaaGreatDoorJ24
import Derived.Test.YtabogkonklplcaaGreatDoorJ32
import Derived.Test.YtabogkonklplcaaGreatDoorJ34
import Derived.Test.YtabogkonklplcaaGreatDoorJ21
namespace Go.Proofs.YtabogkonklplcaaGreatDoor
set_option linter.unusedSimpArgs false
set_option linter.unusedVariables false
set_option maxRecDepth 20000
set_option maxHeartbeats 8000000
section
open Go.RowKit
theorem Zk.widen {w:World} {F G:Nat→Prop} {bx bf bl:Nat} {sv:Value} {st:St} (h:Zk w F bx bf bl sv st) (hG:∀ b,F b→G b):Zk w G bx bf bl sv st :=
 ⟨hG _ h.Fx,h.Hx,h.doc,hG _ h.Fl,h.Hl,h.ne,h.list,h.spans,fun b e=>⟨hG _ (h.apart b e).1,(h.apart b e).2⟩,h.nodes.wider (fun b hb=>⟨hG _ hb.1,hb.2⟩)⟩
section
variable {w:World} {F:Nat→Prop} {bx bf bl:Nat} {sv:Value} {s:List Nd} {rs:List Sp}
theorem Zgq (hD:Zk w F bx bf bl sv ⟨s,rs⟩) (r p0 p1:Int) (h:r < 0∨(rs.length:Int)≤r) :
 Calls Tryz.prog 65 #[ptr bl,.int .i64 r,.agg #[.int .i64 p0,.int .i64 p1]] w fun e w'=>e=.returned (.iface 141 (.agg #[.int .i64 r]))∧Below w.heap.size w w':=by
 have C:=hid (fun W (hb:Below w.heap.size w W)=>J0 (hD.below hb) r h)
 have HB:=hid (show Below w.heap.size w (w.alloc (.cells #[.int .i64 p0,.int .i64 p1] 37)) from (Below.refl _ w).alloc (Nat.le_refl _) _)
 clear hD h
 go_enter Tryz.func65,Tryz.ntmps65
 go_wp2_with (
  go_at_call 69
  refine(C.out _ HB.out).mono ?_
  rintro e w1 ⟨rfl,hb1⟩
  have HB1:=hid (HB.out.trans (hb1.mono HB.out.size))
  clear hb1)
 go_ret
 exact⟨rfl,HB1.out.alloc HB1.out.size _⟩
theorem lend_no (hD:Zk w F bx bf bl sv ⟨s,rs⟩) (r p0 p1:Int) (h:r < 0∨(rs.length:Int)≤r) :
 Calls Tryz.prog 66 #[ptr bl,.int .i64 r,.agg #[.int .i64 p0,.int .i64 p1]] w fun e w'=>e=.returned (.iface 141 (.agg #[.int .i64 r]))∧Below w.heap.size w w':=by
 have C:=hid (fun W (hb:Below w.heap.size w W)=>J0 (hD.below hb) r h)
 have HB:=hid (show Below w.heap.size w (w.alloc (.cells #[.int .i64 p0,.int .i64 p1] 37)) from (Below.refl _ w).alloc (Nat.le_refl _) _)
 clear hD h
 go_enter Tryz.func66,Tryz.ntmps66
 go_wp2_with (
  go_at_call 69
  refine(C.out _ HB.out).mono ?_
  rintro e w1 ⟨rfl,hb1⟩
  have HB1:=hid (HB.out.trans (hb1.mono HB.out.size))
  clear hb1)
 go_ret
 exact⟨rfl,HB1.out.alloc HB1.out.size _⟩
theorem ZaE (hD:Zk w F bx bf bl sv ⟨s,rs⟩) (r:Nat) (x:Sp) (hx:rs[r]?=some x) (p0 p1:Int) (v:Value) (hv:v=.nilIface∨∃ t u,v=.iface t u) {Q:World→World→Prop}
 (hS:∀ W,Below w.heap.size w W→Calls Tryz.prog 111 #[ptr bl,.int .i64 (r:Int),spV ⟨p0,p1,x.c,x.d⟩,.agg #[.int .i64 p0,.int .i64 p1]] W fun e w'=>e=.returned v∧Q W w') :
 Calls Tryz.prog 65 #[ptr bl,.int .i64 (r:Int),.agg #[.int .i64 p0,.int .i64 p1]] w fun e w'=>e=.returned v∧∃ W,Below w.heap.size w W∧Q W w':=by
 have C:=hid (fun W (hb:Below w.heap.size w W)=>J1 (hD.below hb) r x hx)
 have HB:=hid (show Below w.heap.size w (w.alloc (.cells #[.int .i64 p0,.int .i64 p1] 37)) from (Below.refl _ w).alloc (Nat.le_refl _) _)
 have hp:=heap_alloc_new w (.cells #[.int .i64 p0,.int .i64 p1] 37)
 have HP:=hid hp
 have HS:=hid hS
 clear hD hS hp hx
 rcases hv with rfl|⟨t,u,rfl⟩
 all_goals
  go_enter Tryz.func65,Tryz.ntmps65
  go_wp2_with first
   | (go_at_call 69
      refine(C.out _ HB.out).mono ?_
      rintro e w1 ⟨rfl,hb1⟩
      have HB1:=hid ((HB.out.trans (hb1.mono HB.out.size)).alloc (HB.out.trans (hb1.mono HB.out.size)).size (.cells #[.int .i64 x.a,.int .i64 x.b,.int .i64 x.c,.int .i64 x.d] 79))
      have hp1:=(hb1.block _ (Zc HP.out)).trans HP.out
      have y0:=Za hp1 0
      have y1:=Za hp1 1
      have hpl:=Zc hp1
      clear hb1 hp1)
   | (go_at_call 111
      refine(HS.out _ HB1.out).mono ?_
      rintro e w2 ⟨rfl,hQ⟩
      have HQ:=hid hQ
      clear hQ)
  go_ret
  exact⟨rfl,_,HB1.out,HQ.out⟩
theorem ZaC (hD:Zk w F bx bf bl sv ⟨s,rs⟩) (r:Nat) (x:Sp) (hx:rs[r]?=some x) (p0 p1:Int) (v:Value) (hv:v=.nilIface∨∃ t u,v=.iface t u) {Q:World→World→Prop}
 (hS:∀ W,Below w.heap.size w W→Calls Tryz.prog 111 #[ptr bl,.int .i64 (r:Int),spV ⟨x.a,x.b,p0,p1⟩,.agg #[.int .i64 p0,.int .i64 p1]] W fun e w'=>e=.returned v∧Q W w') :
 Calls Tryz.prog 66 #[ptr bl,.int .i64 (r:Int),.agg #[.int .i64 p0,.int .i64 p1]] w fun e w'=>e=.returned v∧∃ W,Below w.heap.size w W∧Q W w':=by
 have C:=hid (fun W (hb:Below w.heap.size w W)=>J1 (hD.below hb) r x hx)
 have HB:=hid (show Below w.heap.size w (w.alloc (.cells #[.int .i64 p0,.int .i64 p1] 37)) from (Below.refl _ w).alloc (Nat.le_refl _) _)
 have hp:=heap_alloc_new w (.cells #[.int .i64 p0,.int .i64 p1] 37)
 have HP:=hid hp
 have HS:=hid hS
 clear hD hS hp hx
 rcases hv with rfl|⟨t,u,rfl⟩
 all_goals
  go_enter Tryz.func66,Tryz.ntmps66
  go_wp2_with first
   | (go_at_call 69
      refine(C.out _ HB.out).mono ?_
      rintro e w1 ⟨rfl,hb1⟩
      have HB1:=hid ((HB.out.trans (hb1.mono HB.out.size)).alloc (HB.out.trans (hb1.mono HB.out.size)).size (.cells #[.int .i64 x.a,.int .i64 x.b,.int .i64 x.c,.int .i64 x.d] 79))
      have hp1:=(hb1.block _ (Zc HP.out)).trans HP.out
      have y0:=Za hp1 0
      have y1:=Za hp1 1
      have hpl:=Zc hp1
      clear hb1 hp1)
   | (go_at_call 111
      refine(HS.out _ HB1.out).mono ?_
      rintro e w2 ⟨rfl,hQ⟩
      have HQ:=hid hQ
      clear hQ)
  go_ret
  exact⟨rfl,_,HB1.out,HQ.out⟩
end
theorem ZdN {w:World} {F:Nat→Prop} {bx:Nat} {s:List Nd} {rs:List Sp} (hg:GG w) (hP:Zv w F bx ⟨s,rs⟩) {t:TypeId} {u:Value} {a y:Int} (A p0 p1:Int) (hE:Z2 (.iface t u) a y)
 (hS:∀ W bf bl sv,Zk W F bx bf bl sv ⟨s,rs⟩→Calls Tryz.prog 65 #[ptr bl,.int .i64 A,.agg #[.int .i64 p0,.int .i64 p1]] W fun e w'=>e=.returned (.iface t u)∧Below W.heap.size W w') :
 Calls Tryz.prog 31 #[ptr bx,.int .i64 A,.agg #[.int .i64 p0,.int .i64 p1]] w (ZY F w bx ⟨s,rs⟩ (errV a y)):=by
 have HP:=hid hP
 obtain⟨bf,bl,sv,hD⟩:=hP
 have hB0:Below w.heap.size w (w.alloc (.cells #[.int .i64 p0,.int .i64 p1] 37)):=(Below.refl _ w).alloc (Nat.le_refl _) _
 have C:=hid (hS _ _ _ _ (hD.below hB0.drew))
 have HB0:=hid hB0
 have hxl:=Zc hD.doc
 have c1:w.cell? ⟨bx,1,none⟩=some (ptr bl):=Za hD.doc 1
 have E:=hid (fun w1 (hb:Below w.heap.size w w1)=>hE w1 (hg.below hb).1)
 clear hD hS hg hE hB0
 go_enter Tryz.func31,Tryz.ntmps31
 go_wp2
 go_region_with (first
  | (go_at_call 65;refine C.out.mono ?_;rintro e w1 ⟨rfl,hb1'⟩;have hb1:=HB0.out.drew.trans (hb1'.mono HB0.out.drew.size);have E1:=hid (E.out w1 hb1))
  | (go_at_call 46;refine E1.out.mono ?_;rintro e w2 ⟨rfl,hb2⟩))
 all_goals
  go_wp2
  go_ret
  exact⟨rfl,HP.out.after (hb1.trans (hb2.mono hb1.size))⟩
theorem ZbR {w:World} {F:Nat→Prop} {bx:Nat} {s:List Nd} {rs rs':List Sp} (hP:Zv w F bx ⟨s,rs⟩) (A p0 p1:Int)
 (hS:∀ W bf bl sv,Zk W F bx bf bl sv ⟨s,rs⟩→Calls Tryz.prog 65 #[ptr bl,.int .i64 A,.agg #[.int .i64 p0,.int .i64 p1]] W fun e w'=>e=.returned .nilIface∧Zb F W w'∧Zk w' (grow F W) bx bf bl sv ⟨s,rs'⟩) :
 Calls Tryz.prog 31 #[ptr bx,.int .i64 A,.agg #[.int .i64 p0,.int .i64 p1]] w (ZY F w bx ⟨s,rs'⟩ (errV 0 0)):=by
 obtain⟨bf,bl,sv,hD⟩:=hP
 have hB0:Below w.heap.size w (w.alloc (.cells #[.int .i64 p0,.int .i64 p1] 37)):=(Below.refl _ w).alloc (Nat.le_refl _) _
 have C:=hid (hS _ _ _ _ (hD.below hB0.drew))
 have HB0:=hid hB0
 have hxl:=Zc hD.doc
 have c1:w.cell? ⟨bx,1,none⟩=some (ptr bl):=Za hD.doc 1
 clear hD hS hB0
 go_enter Tryz.func31,Tryz.ntmps31
 go_wp2
 go_region_with (first
  | (go_at_call 65;refine C.out.mono ?_;rintro e w1 ⟨rfl,hk1,hd1⟩;have H1:=hid (And.intro hk1 hd1);clear hk1 hd1)
  | (go_at_call 46;refine(JP _).mono ?_;rintro e w2 ⟨rfl,hb2⟩))
 all_goals
  go_wp2
  go_ret
  exact⟨by simp[errV,Act.put],((Zb.of_below HB0.out.drew).trans (H1.out.1.mono (fun b _ e=>.inl e))).trans (Zb.of_below hb2),_,_,_,(H1.out.2.widen (fun b h=>h.imp id (fun h=>Nat.le_trans HB0.out.size h))).below hb2⟩
theorem ZdF {w:World} {F:Nat→Prop} {bx:Nat} {s:List Nd} {rs:List Sp} (hg:GG w) (hP:Zv w F bx ⟨s,rs⟩) {t:TypeId} {u:Value} {a y:Int} (A p0 p1:Int) (hE:Z2 (.iface t u) a y)
 (hS:∀ W bf bl sv,Zk W F bx bf bl sv ⟨s,rs⟩→Calls Tryz.prog 66 #[ptr bl,.int .i64 A,.agg #[.int .i64 p0,.int .i64 p1]] W fun e w'=>e=.returned (.iface t u)∧Below W.heap.size W w') :
 Calls Tryz.prog 32 #[ptr bx,.int .i64 A,.agg #[.int .i64 p0,.int .i64 p1]] w (ZY F w bx ⟨s,rs⟩ (errV a y)):=by
 have HP:=hid hP
 obtain⟨bf,bl,sv,hD⟩:=hP
 have hB0:Below w.heap.size w (w.alloc (.cells #[.int .i64 p0,.int .i64 p1] 37)):=(Below.refl _ w).alloc (Nat.le_refl _) _
 have C:=hid (hS _ _ _ _ (hD.below hB0.drew))
 have HB0:=hid hB0
 have hxl:=Zc hD.doc
 have c1:w.cell? ⟨bx,1,none⟩=some (ptr bl):=Za hD.doc 1
 have E:=hid (fun w1 (hb:Below w.heap.size w w1)=>hE w1 (hg.below hb).1)
 clear hD hS hg hE hB0
 go_enter Tryz.func32,Tryz.ntmps32
 go_wp2
 go_region_with (first
  | (go_at_call 66;refine C.out.mono ?_;rintro e w1 ⟨rfl,hb1'⟩;have hb1:=HB0.out.drew.trans (hb1'.mono HB0.out.drew.size);have E1:=hid (E.out w1 hb1))
  | (go_at_call 46;refine E1.out.mono ?_;rintro e w2 ⟨rfl,hb2⟩))
 all_goals
  go_wp2
  go_ret
  exact⟨rfl,HP.out.after (hb1.trans (hb2.mono hb1.size))⟩
theorem ZbQ {w:World} {F:Nat→Prop} {bx:Nat} {s:List Nd} {rs rs':List Sp} (hP:Zv w F bx ⟨s,rs⟩) (A p0 p1:Int)
 (hS:∀ W bf bl sv,Zk W F bx bf bl sv ⟨s,rs⟩→Calls Tryz.prog 66 #[ptr bl,.int .i64 A,.agg #[.int .i64 p0,.int .i64 p1]] W fun e w'=>e=.returned .nilIface∧Zb F W w'∧Zk w' (grow F W) bx bf bl sv ⟨s,rs'⟩) :
 Calls Tryz.prog 32 #[ptr bx,.int .i64 A,.agg #[.int .i64 p0,.int .i64 p1]] w (ZY F w bx ⟨s,rs'⟩ (errV 0 0)):=by
 obtain⟨bf,bl,sv,hD⟩:=hP
 have hB0:Below w.heap.size w (w.alloc (.cells #[.int .i64 p0,.int .i64 p1] 37)):=(Below.refl _ w).alloc (Nat.le_refl _) _
 have C:=hid (hS _ _ _ _ (hD.below hB0.drew))
 have HB0:=hid hB0
 have hxl:=Zc hD.doc
 have c1:w.cell? ⟨bx,1,none⟩=some (ptr bl):=Za hD.doc 1
 clear hD hS hB0
 go_enter Tryz.func32,Tryz.ntmps32
 go_wp2
 go_region_with (first
  | (go_at_call 66;refine C.out.mono ?_;rintro e w1 ⟨rfl,hk1,hd1⟩;have H1:=hid (And.intro hk1 hd1);clear hk1 hd1)
  | (go_at_call 46;refine(JP _).mono ?_;rintro e w2 ⟨rfl,hb2⟩))
 all_goals
  go_wp2
  go_ret
  exact⟨by simp[errV,Act.put],((Zb.of_below HB0.out.drew).trans (H1.out.1.mono (fun b _ e=>.inl e))).trans (Zb.of_below hb2),_,_,_,(H1.out.2.widen (fun b h=>h.imp id (fun h=>Nat.le_trans HB0.out.size h))).below hb2⟩
theorem ZdL {w:World} {F:Nat→Prop} {bx:Nat} {s:List Nd} {rs:List Sp} (hg:GG w) (hP:Zv w F bx ⟨s,rs⟩) (r:Int) (x:Sp) (v:Value) (hv:v=.nilIface∨∃ t u,v=.iface t u) {a y:Int} (hE:Z2 v a y)
 (hS:∀ W bf bl sv,Zk W F bx bf bl sv ⟨s,rs⟩→Calls Tryz.prog 69 #[ptr bl,.int .i64 r] W fun e w'=>e=.returned (.tuple #[spV x,v])∧Below W.heap.size W w') :
 Calls Tryz.prog 36 #[ptr bx,.int .i64 r] w (ZY F w bx ⟨s,rs⟩ (.tuple #[spV x,errV a y])):=by
 have HP:=hid hP
 obtain⟨bf,bl,sv,hD⟩:=hP
 have hB0:Below w.heap.size w (w.alloc (.cells #[.int .i64 0,.int .i64 0,.int .i64 0,.int .i64 0] 79)):=(Below.refl _ w).alloc (Nat.le_refl _) _
 have C:=hid (hS _ _ _ _ (hD.below hB0))
 have HB0:=hid hB0
 have c1:w.cell? ⟨bx,1,none⟩=some (ptr bl):=Za hD.doc 1
 have hxl:=Zc hD.doc
 have hz0:=heap_alloc_new w (.cells #[.int .i64 0,.int .i64 0,.int .i64 0,.int .i64 0] 79)
 have HZ0:=hid hz0
 have E:=hid (fun w1 (hb:Below w.heap.size w w1)=>hE w1 (hg.below hb).1)
 clear hD hS hg hE hB0 hz0
 rcases hv with rfl|⟨t,u,rfl⟩
 all_goals
  go_enter Tryz.func36,Tryz.ntmps36
  go_wp2_with (
   go_at_call 69;refine C.out.mono ?_;rintro e w1 ⟨rfl,hb1⟩
   have hB1:=HB0.out.trans (hb1.mono HB0.out.size)
   have hz1:=(hb1.block _ (Zc HZ0.out)).trans HZ0.out
   have hl1:=Zc hz1
   have hB2:=hB1.alloc hB1.size (.cells #[.int .i64 x.a,.int .i64 x.b,.int .i64 x.c,.int .i64 x.d] 79)
   have HB2:=hid hB2
   have HZ1:=hid hz1
   have HS1:=hid (heap_alloc_new w1 (.cells #[.int .i64 x.a,.int .i64 x.b,.int .i64 x.c,.int .i64 x.d] 79))
   have E1:=hid (fun w2 (hb:Below w.heap.size w w2)=>E.out w2 hb)
   clear hb1 hB1 hB2 hz1)
  go_region_held3 (fun w'=>w'.cell? ⟨w1.heap.size,0,none⟩=some (.int .i64 x.a)∧w'.cell? ⟨w1.heap.size,1,none⟩=some (.int .i64 x.b)∧w'.cell? ⟨w1.heap.size,2,none⟩=some (.int .i64 x.c)∧w'.cell? ⟨w1.heap.size,3,none⟩=some (.int .i64 x.d)) (first|exact KP2.out|exact KP1.out|go_keep) ((
   go_at_call 46
   refine(E1.out _ HB2.out.drew).mono ?_
   rintro e w2 ⟨rfl,hb2'⟩
   have hb2:Below (w1.alloc (.cells #[.int .i64 x.a,.int .i64 x.b,.int .i64 x.c,.int .i64 x.d] 79)).heap.size (w1.alloc (.cells #[.int .i64 x.a,.int .i64 x.b,.int .i64 x.c,.int .i64 x.d] 79)) w2:=⟨hb2'.os,hb2'.tape,hb2'.output,hb2'.size,hb2'.block⟩
   have hz2:=(hb2.block w.heap.size (by simp;omega)).trans ((Below.heap_alloc _ _ _ hl1).trans HZ1.out)
   have hs2:=(hb2.block w1.heap.size (by simp)).trans HS1.out
   have ka0:=Za hz2 0
   have ka1:=Za hz2 1
   have ka2:=Za hz2 2
   have ka3:=Za hz2 3
   have kf0:=Zd hz2 0
   have kf1:=Zd hz2 1
   have kf2:=Zd hz2 2
   have kf3:=Zd hz2 3
   have KP1:=hid (And.intro (show w2.cell? ⟨w1.heap.size,0,none⟩=some (.int .i64 x.a) from Za hs2 0) (And.intro (show w2.cell? ⟨w1.heap.size,1,none⟩=some (.int .i64 x.b) from Za hs2 1) (And.intro (show w2.cell? ⟨w1.heap.size,2,none⟩=some (.int .i64 x.c) from Za hs2 2) (show w2.cell? ⟨w1.heap.size,3,none⟩=some (.int .i64 x.d) from Za hs2 3))))
   have hk:=((((Zb.refl (fun b=>b=w.heap.size) w2).setCell (p:=⟨w.heap.size,0,none⟩) (.inl rfl) (.int .i64 x.a)).setCell (p:=⟨w.heap.size,1,none⟩) (.inl rfl) (.int .i64 x.b)).setCell (p:=⟨w.heap.size,2,none⟩) (.inl rfl) (.int .i64 x.c)).setCell (p:=⟨w.heap.size,3,none⟩) (.inl rfl) (.int .i64 x.d)
   have hne:¬ w1.heap.size=w.heap.size:=by omega
   have KP2:=hid (And.intro (hk.cell KP1.out.1 hne) (And.intro (hk.cell KP1.out.2.1 hne) (And.intro (hk.cell KP1.out.2.2.1 hne) (hk.cell KP1.out.2.2.2 hne))))
   have hl2:=Zc hz2
   have HB3:=hid (HB2.out.trans (hb2.mono HB2.out.size))
   clear hb2 hb2' hz2 hs2 hk))
  all_goals
   go_wp2
   refine bodyPost_ret (v:=.tuple #[spV x,errV a y]) (by simp[results,Tryz.results36,go_sem,ka0,ka1,ka2,ka3,kf0,kf1,kf2,kf3,hl2]) rfl ?_
   refine⟨rfl,HP.out.after ((((HB3.out.setCell (p:=⟨w.heap.size,0,none⟩) (Nat.le_refl _) _).setCell (p:=⟨w.heap.size,1,none⟩) (Nat.le_refl _) _).setCell (p:=⟨w.heap.size,2,none⟩) (Nat.le_refl _) _).setCell (p:=⟨w.heap.size,3,none⟩) (Nat.le_refl _) _)⟩
end
section
open Go.RowKit Go.Lib
section
variable {w:World} {F:Nat→Prop} {bf bn cap:Nat} {pn:List PN} {s:List Nd}
theorem Zez (wf:WF s) {h:Nat→Nat} {B:Nat} (u:Up s h B) (hD:Zh w F bf bn cap pn s) (n k n2 k2 t:Nat) (hn:n < s.length) (hn2:n2 < s.length) (h1:Zm s n t) (h2:Zm s n2 t) (hk:k≤Zn s n) (hk2:k2≤Zn s n2) :
 Calls Tryz.prog 100 #[ptr bf,.agg #[.int .i64 (n:Int),.int .i64 (k:Int)],.agg #[.int .i64 (n2:Int),.int .i64 (k2:Int)]] w fun e w'=>∃ q:Int,e=.returned (.int .i64 q)∧decide (q≤0)=decide (wh (plF s (B+1) t) (n,k)≤wh (plF s (B+1) t) (n2,k2))∧Below w.heap.size w w':=by
 refine(Zey wf hD n k n2 k2 hn hn2).mono ?_
 rintro e w' ⟨t3,t4,l,l2,wa,ta,wb,tb,rfl,hb⟩
 obtain rfl:=ta.one h1
 obtain rfl:=tb.one h2
 refine⟨_,rfl,?_,hb⟩
 rw[XM wf u wa wb hk hk2 (YW _ _) (YW _ _)]
 refine decide_eq_decide.2 ?_
 split
 · constructor <;> intro _ <;> omega
 · split
   · constructor <;> intro _ <;> omega
   · constructor <;> intro _ <;> omega
theorem Zes (wf:WF s) {h:Nat→Nat} {B:Nat} (u:Up s h B) (hD:Zh w F bf bn cap pn s) (a b c d n k t:Nat) (ha:a < s.length) (hc:c < s.length) (hn:n < s.length) (ta:Zm s a t) (tc:Zm s c t) (tn:Zm s n t) (hb:b≤Zn s a) (hd:d≤Zn s c) (hk:k+1≤Zn s n) :
 Calls Tryz.prog 159 #[ptr bf,spV ⟨a,b,c,d⟩,.agg #[.int .i64 (n:Int),.int .i64 (k:Int)]] w fun e w'=>e=.returned (.bool (cov (plF s (B+1) t) a b c d n k))∧Below w.heap.size w w':=by
 have C1:=hid (fun W (hB:Below w.heap.size w W)=>Zez wf u (hD.below hB) a b n k t ha hn ta tn hb (by omega))
 have C2:=hid (fun W (hB:Below w.heap.size w W)=>Zez wf u (hD.below hB) n (k+1) c d t hn hc tn tc hk hd)
 have hk100:k<1000:=by
  have hx:s[n]?=some s[n]:=List.getElem?_eq_getElem hn
  rw[ZE hx] at hk
  have:=ZaY wf hx
  omega
 clear hD wf u
 unfold cov
 generalize hW1:wh (plF s (B+1) t) (a,b)=q1
 rw[hW1] at C1
 generalize hW2:wh (plF s (B+1) t) (n,k)=q2
 rw[hW2] at C1
 generalize hW3:wh (plF s (B+1) t) (n,k+1)=q3
 rw[hW3] at C2
 generalize hW4:wh (plF s (B+1) t) (c,d)=q4
 rw[hW4] at C2
 clear hW1 hW2 hW3 hW4
 have HB3:Hid (Below w.heap.size w (((w.alloc (.cells #[.int .i64 (a:Int),.int .i64 (b:Int),.int .i64 (c:Int),.int .i64 (d:Int)] 79)).alloc (.cells #[.int .i64 (n:Int),.int .i64 (k:Int)] 37)).alloc (.cells #[.int .i64 (n:Int),.int .i64 ((k:Int)+1)] 37))) :=
  (((Below.refl _ w).alloc (Nat.le_refl _) _).alloc (by simp) _).alloc (by simp only[World.size_alloc];omega) _
 have hx0:(((w.alloc (.cells #[.int .i64 (a:Int),.int .i64 (b:Int),.int .i64 (c:Int),.int .i64 (d:Int)] 79)).alloc (.cells #[.int .i64 (n:Int),.int .i64 (k:Int)] 37)).alloc (.cells #[.int .i64 (n:Int),.int .i64 ((k:Int)+1)] 37)).heap[w.heap.size]?=some (.cells #[.int .i64 (a:Int),.int .i64 (b:Int),.int .i64 (c:Int),.int .i64 (d:Int)] 79 (0,0)):=by
  rw[Below.heap_alloc _ _ _ (by simp only[World.size_alloc];omega),Below.heap_alloc _ _ _ (by simp),heap_alloc_new]
 have hx2:(((w.alloc (.cells #[.int .i64 (a:Int),.int .i64 (b:Int),.int .i64 (c:Int),.int .i64 (d:Int)] 79)).alloc (.cells #[.int .i64 (n:Int),.int .i64 (k:Int)] 37)).alloc (.cells #[.int .i64 (n:Int),.int .i64 ((k:Int)+1)] 37)).heap[w.heap.size+1+1]?=some (.cells #[.int .i64 (n:Int),.int .i64 ((k:Int)+1)] 37 (0,0)):=by
  have:=heap_alloc_new ((w.alloc (.cells #[.int .i64 (a:Int),.int .i64 (b:Int),.int .i64 (c:Int),.int .i64 (d:Int)] 79)).alloc (.cells #[.int .i64 (n:Int),.int .i64 (k:Int)] 37)) (.cells #[.int .i64 (n:Int),.int .i64 ((k:Int)+1)] 37)
  simpa using this
 have HX0:=hid hx0
 have HX2:=hid hx2
 have C1':=hid (C1.out _ HB3.out)
 clear hx0 hx2 C1
 by_cases h12:q1≤q2
 · rw[decide_eq_true h12] at C1' ⊢
   rw[Bool.true_and]
   go_enter Tryz.func159,Tryz.ntmps159
   go_wp2_with (first
    | (go_at_call 100
       refine C1'.out.mono ?_
       clear C1'
       rintro e w1 ⟨r1,rfl,hr1,hb1⟩
       have hy0:=(hb1.block _ (Zc HX0.out)).trans HX0.out
       have hy2:=(hb1.block _ (Zc HX2.out)).trans HX2.out
       have y0:=Za hy0 2
       have y1:=Za hy0 3
       have y2:=Za hy2 0
       have y3:=Za hy2 1
       have HB4:=hid (HB3.out.trans (hb1.mono HB3.out.size))
       clear hb1 hy0 hy2)
    | (go_at_call 100
       refine(C2.out _ HB4.out).mono ?_
       rintro e w2 ⟨r2,rfl,hr2,hb2⟩
       have HB5:=hid (HB4.out.trans (hb2.mono HB4.out.size))
       clear hb2))
   go_ret
   exact⟨rfl,HB5.out⟩
 · rw[decide_eq_false h12] at C1' ⊢
   rw[Bool.false_and]
   go_enter Tryz.func159,Tryz.ntmps159
   go_wp2_with (
    go_at_call 100
    refine C1'.out.mono ?_
    clear C1'
    rintro e w1 ⟨r1,rfl,hr1,hb1⟩
    have HB4:=hid (HB3.out.trans (hb1.mono HB3.out.size))
    clear hb1)
   go_ret
   exact⟨rfl,HB4.out⟩
end
end
section
open Go.RowKit Go.Shelf
attribute [local go_sem] Oper.semAt_some
theorem pk_mem {cs:List ByteArray} {c:Nat→Bool} {k:Nat} {x:ByteArray} (h:x∈pk cs c k):x∈cs:=by
 unfold pk at h
 obtain⟨b,_,hb⟩:=List.mem_flatMap.1 h
 split at hb
 · cases e:cs[b]? with
   | none=>rw[e] at hb;simp at hb
   | some y=>rw[e] at hb;simp at hb;subst hb;exact List.mem_of_getElem? e
 · simp at hb
theorem pk_len (cs:List ByteArray) (c:Nat→Bool) (k:Nat):(pk cs c k).length≤k:=by
 induction k with
 | zero=>simp[pk]
 | succ k ih =>
   rw[ZbY,List.length_append]
   have:(if c k then cs[k]?.toList else []).length≤1:=by
    split
    · cases cs[k]? <;> simp
    · simp
   omega
theorem readP_ch {s:List Nd} (wf:WF s) (L:List (Nat × Nat)) (a b c d:Nat) (ns:List Nat):∀ x∈Yf s L a b c d ns,IsCh x:=by
 intro x hx
 obtain⟨n,_,hx⟩:=List.mem_flatMap.1 hx
 have hx:=pk_mem hx
 unfold csOf at hx
 split at hx
 · rename_i y hy
   exact(wf.chars n y hy).2 x hx
 · simp at hx
theorem Zhi {s:List Nd} (wf:WF s) (L:List (Nat × Nat)) (a b c d:Nat) (ns:List Nat):(Yf s L a b c d ns).length≤30 * ns.length:=by
 induction ns with
 | nil=>simp[Yf]
 | cons n ns ih =>
   have e:Yf s L a b c d (n::ns)=pk (csOf s n) (cov L a b c d n) (csOf s n).length++Yf s L a b c d ns:=by simp[Yf]
   have h1:=pk_len (csOf s n) (cov L a b c d n) (csOf s n).length
   have h2:(csOf s n).length≤30:=by
    unfold csOf
    split
    · rename_i y hy
      exact(wf.chars n y hy).1
    · simp
   rw[e,List.length_append,List.length_cons]
   omega
theorem Zhj (s:List Nd) (L:List (Nat × Nat)) (a b c d:Nat) (ns:List Nat) (n:Nat):Yf s L a b c d (ns++[n])=Yf s L a b c d ns++pk (csOf s n) (cov L a b c d n) (csOf s n).length:=by simp [Yf]
theorem Zdq {F:Nat→Prop} {a w:World} (h:Zb F a w) {k:Nat} (hk:F k∨a.heap.size≤k) (z:ByteArray) (q:Nat):Zb F a (w.iterAt k z q) :=
 h.trans ⟨rfl,rfl,rfl,by rw[Lib.iterAt_size];exact Nat.le_refl _,fun j hj hF=>Lib.iterAt_other w k j z q (fun e=>hF (by rw[e];exact hk))⟩
theorem cat_rune (l:List ByteArray) (h:∀ c∈l,IsCh c) (k:Nat) (c:ByteArray) (hk:l[k]?=some c) :
 ∃ R:Nat,Utf8.decode (catB l) (catB (l.take k)).size=(R,c.size)∧Lib.runeCells (R:Int)=Lib.strCells c∧R≤2147483647∧(catB (l.take k)).size<(catB l).size∧(catB (l.take (k+1))).size=(catB (l.take k)).size+c.size:=by
 obtain⟨hkl,rfl⟩:=List.getElem?_eq_some_iff.1 hk
 have e:l=l.take k++l[k]::l.drop (k+1):=by rw[List.getElem_cons_drop,List.take_append_drop]
 obtain⟨R,h1,h2,h3,h4,h5⟩:=Zak (l.take k) l[k] (l.drop (k+1)) (h _ (List.getElem_mem hkl))
 rw[← e] at h1 h4
 exact⟨R,h1,h2,h3,h4,by rw[List.take_succ_eq_append_getElem hkl];exact h5⟩
def RdInv (bo bp:Nat) (n:Nat) (cs out:List ByteArray) (c:Nat→Bool) (O:Nat→Prop) (W wr:World):Prop :=
 ∃ (k:Nat) (v:Value),k≤cs.length∧wr.heap[bp]?=some (.cells #[.int .i64 (n:Int),.int .i64 (k:Int)] 37 (0,0))∧wr.heap[bp+1]?=some (.stringIter (catB cs) (catB (cs.take k)).size) ∧
  BldV bo v (Lib.strCells (catB (out++pk cs c k))) wr∧Zb O W wr∧(∀ j,v.ownBlock=some j→O j∨W.heap.size≤j)∧v.ownBlock≠some bp
theorem ZiD {s:List Nd} (wf:WF s) {h:Nat→Nat} {B:Nat} (u:Up s h B) {F:Nat→Prop} {bf bn cap:Nat} {pn:List PN} {w:World} (hD:Zh w F bf bn cap pn s) (a b c d t:Nat) (ha:a < s.length) (hc:c < s.length) (ta:Zm s a t) (tc:Zm s c t) (hb:b≤Zn s a) (hd:d≤Zn s c) :
 Calls Tryz.prog 112 #[ptr bf,spV ⟨a,b,c,d⟩] w fun e w'=>e=.returned (.string (catB (Yf s (plF s (B+1) t) a b c d (allF s (B+1) t))))∧Below w.heap.size w w':=by
 have HD:=hid hD.narrow
 clear hD
 refine callsIn_wide.1 (callsIn_of_wp_marks (F:=Fence.wide) (n:=1) Tryz.func112 rfl trivial ?_ rfl)
 simp only[Tryz.ntmps112,List.size_toArray,List.length_cons,List.length_nil,Nat.reduceAdd,Nat.reduceSub,Array.replicate_succ,Array.replicate_zero,List.push_toArray,List.append_toArray,List.nil_append,List.cons_append]
 have C:=hid (fun (W:World)=>JB bf t W)
 have CT:=hid (fun (W:World) (hb:Below w.heap.size w W)=>Za3 wf (HD.out.below hb) ta ha)
 gi_wp2
 obtain⟨w0,hw0⟩:∃ w0,((w.alloc (.cells #[ptr bf] 91)).alloc (.cells #[.int .i64 (a:Int),.int .i64 (b:Int),.int .i64 (c:Int),.int .i64 (d:Int)] 79)).alloc (.cells #[.pointer none,.slice none 0 0] 219)=w0:=⟨_,rfl⟩
 have hb0:Below w.heap.size w w0:=by rw[← hw0];exact(((Below.refl _ w).alloc (Nat.le_refl _) _).alloc (by simp) _).alloc (by simp only[World.size_alloc];omega) _
 have hsz0:w0.heap.size=w.heap.size+3:=by rw[← hw0];simp
 have y0:w0.heap[w.heap.size]?=some (.cells #[ptr bf] 91 (0,0)):=by
  rw[← hw0,Below.heap_alloc _ _ _ (by simp only[World.size_alloc];omega),Below.heap_alloc _ _ _ (by simp),heap_alloc_new]
 have y1:w0.heap[w.heap.size+1]?=some (.cells #[.int .i64 (a:Int),.int .i64 (b:Int),.int .i64 (c:Int),.int .i64 (d:Int)] 79 (0,0)):=by
  rw[← hw0,Below.heap_alloc _ _ _ (by simp)]
  have:=heap_alloc_new (w.alloc (.cells #[ptr bf] 91)) (.cells #[.int .i64 (a:Int),.int .i64 (b:Int),.int .i64 (c:Int),.int .i64 (d:Int)] 79)
  rwa [World.size_alloc] at this
 have y2:w0.heap[w.heap.size+2]?=some (.cells #[.pointer none,.slice none 0 0] 219 (0,0)):=by
  rw[← hw0]
  have:=heap_alloc_new ((w.alloc (.cells #[ptr bf] 91)).alloc (.cells #[.int .i64 (a:Int),.int .i64 (b:Int),.int .i64 (c:Int),.int .i64 (d:Int)] 79)) (.cells #[.pointer none,.slice none 0 0] 219)
  rwa [World.size_alloc,World.size_alloc] at this
 rw[hw0]
 have e0:w0.cell? ⟨w.heap.size,0,none⟩=some (ptr bf):=Za y0 0
 have e1:w0.cell? ⟨w.heap.size+1,0,none⟩=some (.int .i64 (a:Int)):=Za y1 0
 have HH:=hid (And.intro hb0 (And.intro hsz0 (And.intro y0 (And.intro y1 (And.intro y2 hw0)))))
 clear hb0 hsz0 y0 y1 y2 hw0
 refine wpIn_wide.2 ?_
 go_region_held3 (fun w'=>w'.cell? ⟨w.heap.size,0,none⟩=some (ptr bf)∧w'.cell? ⟨w.heap.size+1,0,none⟩=some (.int .i64 (a:Int))) (first|exact KP.out|go_keep) (first
  | (go_at_call 99;refine(CT.out _ (by first|exact HH.out.1|exact HH.out.1.drew)).mono ?_;rintro e w3 ⟨rfl,hw3⟩;replace hw3:=hw3.symm;subst hw3)
  | (go_at_call 90;refine(C.out _).mono ?_;rintro e w3 ⟨rfl,hw3⟩;replace hw3:=hw3.symm;subst hw3))
 all_goals
  gi_wp2
  obtain⟨wb,hwb⟩:∃ wb,((w0.alloc (.cells #[ptr bf] 91)).alloc (.cells #[.int .i64 (t:Int)] 3)).drew=wb:=⟨_,rfl⟩
  obtain⟨hb0,hsz0,y0,y1,y2,_⟩:=HH.out
  have hszb:wb.heap.size=w.heap.size+5:=by rw[← hwb];simp[hsz0]
  have hb1:Below w0.heap.size w0 wb:=by rw[← hwb];exact(((Below.refl _ w0).alloc (Nat.le_refl _) _).alloc (by simp) _).drew
  have hbb:Below w.heap.size w wb:=hb0.trans (hb1.mono hb0.size)
  have x0:wb.heap[w.heap.size]?=some (.cells #[ptr bf] 91 (0,0)):=(hb1.block _ (Zc y0)).trans y0
  have x1:wb.heap[w.heap.size+1]?=some (.cells #[.int .i64 (a:Int),.int .i64 (b:Int),.int .i64 (c:Int),.int .i64 (d:Int)] 79 (0,0)):=(hb1.block _ (Zc y1)).trans y1
  have x2:wb.heap[w.heap.size+2]?=some (.cells #[.pointer none,.slice none 0 0] 219 (0,0)):=(hb1.block _ (Zc y2)).trans y2
  have x3:wb.heap[w0.heap.size]?=some (.cells #[ptr bf] 91 (0,0)):=by
   have h1:((w0.alloc (.cells #[ptr bf] 91)).alloc (.cells #[.int .i64 (t:Int)] 3)).heap[w0.heap.size]?=some (.cells #[ptr bf] 91 (0,0)):=by
    rw[Below.heap_alloc _ _ _ (by simp)]
    exact heap_alloc_new w0 _
   rw[← hwb];exact h1
  have x4:wb.heap[w0.heap.size+1]?=some (.cells #[.int .i64 (t:Int)] 3 (0,0)):=by
   have h1:=heap_alloc_new (w0.alloc (.cells #[ptr bf] 91)) (.cells #[.int .i64 (t:Int)] 3)
   rw[World.size_alloc] at h1
   rw[← hwb];exact h1
  rw[hwb]
  rw[hsz0] at x3 x4
  simp only[hsz0]
  have hDb:=HD.out.below hbb
  have hHt:=u.le t
  refine J4 (gf:=138) (lb:=#[ptr (w.heap.size+3+1),ptr (w.heap.size+3)]) rfl (enters_of Tryz.func138 (by kernel_rfl) rfl) rfl (O:=fun k=>k=w.heap.size+2) (fun k e=>by omega)
   (Zaf wf u (B+1) t ta.lt (by omega) wb _ _ _ hDb (fun k hk=>⟨by have:=hk.2;omega,by have:=hk.2;omega⟩) (Za x4 0) (Za x3 0) (by omega) (by omega))
   (fun pre O3 W=>∃ v,O3=(fun k=>k=w.heap.size+2∨v.ownBlock=some k)∧BldV (w.heap.size+2) v (Lib.strCells (catB (Yf s (plF s (B+1) t) a b c d pre))) W∧Stp (fun k=>k=w.heap.size+2) O3 wb W)
   (fun _ _ _=>False) ?mI ?mIx ?h0
   (fun y=>Act.mk #[ptr bf,spV { a:=a,b:=b,c:=c,d:=d },Value.pointer (some { block:=w.heap.size,off:=0 }),
     Value.pointer (some { block:=w.heap.size+1,off:=0 }),Value.string { data:=#[] },
     Value.pointer (some { block:=w.heap.size+1+1,off:=0 }),.int .i64 (y:Int),undef,undef,undef,ptr bf,
     ptr bf,Value.pointer (some { block:=w.heap.size+1,off:=0 }),
     Value.pointer (some { block:=w.heap.size+1,off:=0 }),Value.int IntKind.i64 a,Value.int IntKind.i64 t,
     Value.func (Fn.func 138) #[] #[ptr (w.heap.size+3+1),ptr (w.heap.size+3)],.int .i64 (y:Int),undef,undef,undef,undef,undef,undef,undef,undef,undef,undef,undef,undef,undef,undef,undef,undef,undef,undef,undef,undef,undef,undef,undef,undef,undef] []) ?assign ?body ?done ?stop
  case mI =>
   rintro pre O3 X Y ⟨v,rfl,h1,h2⟩ hk
   exact⟨v,rfl,h1.keeps hk (fun e=>e.1 (.inl rfl)) (fun k e e2=>e2.1 (.inr e)),XW (Nat.le_refl _) h2 hk⟩
  case mIx=>intro pre O3 X Y h _;exact h
  case h0 =>
   refine⟨.slice none 0 0,?_,⟨.inl x2,World.ownsRow_nil _ _ _ _,fun e=>by cases e⟩,?_⟩
   · funext k;simp[Value.ownBlock]
   · exact Stp.refl (fun k e=>by omega)
  case assign =>
   intro m l' y W K hK
   dsimp only[encN]
   gi_wp2
   exact hK
  case body =>
   rintro m l' pre y O3 W hpre hO3 ⟨v,rfl,h1,h2⟩
   have hyall:y∈allF s (B+1) t:=hpre.subset (by simp)
   have hyl:y<s.length:=X5 wf (B+1) t ta.lt y hyall
   obtain⟨x,hx⟩:∃ x,s[y]?=some x:=⟨_,List.getElem?_eq_getElem hyl⟩
   have hch:=wf.chars y x hx
   have hty:Zm s y t:=⟨XH wf (B+1) t y hyall,ta.2⟩
   have hpl:pre.length+1≤40:=by
    have h3:=hpre.length_le
    have h4:=Yr wf (B+1) t ta.lt
    simp at h3
    omega
   have hO3':∀ k,(k=w.heap.size+2∨v.ownBlock=some k)→¬ k<w.heap.size+2:=fun k e=>by
    rcases h2.gains k e with e1|e1 <;> omega
   have hDW:=hDb.keeps h2.keeps (fun k hk e=>by have:=hk.2;omega)
   have g0:W.cell? ⟨w.heap.size,0,none⟩=some (ptr bf):=h2.keeps.cell (Za x0 0) (by simp)
   have z1:W.heap[w.heap.size+1]?=some (.cells #[.int .i64 (a:Int),.int .i64 (b:Int),.int .i64 (c:Int),.int .i64 (d:Int)] 79 (0,0)):=by
    rw[h2.keeps.block _ (Zc x1) (by simp)];exact x1
   have z0:W.heap[w.heap.size]?=some (.cells #[ptr bf] 91 (0,0)):=by
    rw[h2.keeps.block _ (Zc x0) (by simp)];exact x0
   obtain⟨r,hr,ho,d0,d1,d2,d3⟩:=hDW.look hx
   have n0:=hDW.nodesCell
   have hcov:=fun (k:Nat) (hk:k<x.cs.length) (Wr:World) (hkp:Zb (fun k=>k=w.heap.size+2∨v.ownBlock=some k) W Wr) =>
    Zes (w:=Wr) wf u (hDW.keeps hkp (fun k hk e=>hO3' k e (by have:=hk.2;omega))) a b c d y k t ha hc hyl ta tc hty hb hd (by
     have ht:x.t=true:=by
      cases e:x.t with
      | true=>rfl
      | false=>rw[(wf.elem y x hx).2 e] at hk;simp at hk
     rw[ZE hx,Yl ht];omega)
   have hcs:csOf s y=x.cs:=YZ hx
   have hrl:(Yf s (plF s (B+1) t) a b c d pre).length≤1170:=by
    have:=Zhi wf (plF s (B+1) t) a b c d pre
    omega
   have hrc:=readP_ch wf (plF s (B+1) t) a b c d pre
   have hsn:=Zhj s (plF s (B+1) t) a b c d pre y
   rw[hcs] at hsn
   obtain⟨out,hout⟩:∃ out,Yf s (plF s (B+1) t) a b c d pre=out:=⟨_,rfl⟩
   rw[hout] at h1 hrl hrc hsn
   obtain⟨cf,hcf⟩:∃ cf,cov (plF s (B+1) t) a b c d y=cf:=⟨_,rfl⟩
   rw[hcf] at hcov hsn
   have hlW:W.heap.size ≥ w.heap.size+5:=by have:=h2.keeps.size;omega
   have hlen:∀ k,k≤x.cs.length→(Lib.strCells (catB (out++pk x.cs cf k))).length<lots:=by
    intro k hk
    have h5:=pk_len x.cs cf k
    have h6:=Z3 (out++pk x.cs cf k) (fun z hz=>by
     rcases List.mem_append.1 hz with hz|hz
     · exact hrc z hz
     · exact hch.2 z (pk_mem hz))
    rw[List.length_append] at h6
    rw[Lib.strCells_length]
    unfold lots
    have:=hch.1
    omega
   have hbo:=h1.lt
   have hfl:=hDW.lt
   have q0:¬ w.heap.size=W.heap.size:=by omega
   have q1:¬ bf=W.heap.size:=by omega
   have q2:¬ bn=W.heap.size:=by omega
   have q3:w.heap.size<W.heap.size:=by omega
   have hvl:∀ k,v.ownBlock=some k→k<W.heap.size:=fun k e=>hO3 k (.inr e)
   have G:=hid (And.intro h1 (And.intro hO3 (And.intro hO3' (And.intro z0 (And.intro z1 (And.intro hcov (And.intro hsn (And.intro hlen (And.intro hch.2 (And.intro h2 hvl))))))))))
   have hcl:=hch.1
   have hylI:(y:Int)<(s.length:Int):=by omega
   clear h1 hO3 hO3' z0 z1 hcov hsn hlen hch h2 hvl hDW d0 d1 d2 hr ho hpre hyall hty x0 x1 x2 x3 x4 hDb hb1 y0 y1 y2 hb0 hwb hcs hrl hrc hout hcf hx hszb hHt hsz0 HH HD C CT e0 e1 wf u ta tc ha hc hb hd hpl
   generalize x.cs=cs at *
   gi_wp2
   gi_loopw [9] (fun _ wr=>RdInv (w.heap.size+2) W.heap.size y cs out cf (fun k=>k=w.heap.size+2∨v.ownBlock=some k) W wr) (fun _ wr=>(catB cs).size - wr.iterPos (W.heap.size+1))
   case atStart =>
    obtain⟨h1,hO3,hO3',z0,z1,hcov,hsn,hlen,hch,h2,hvl⟩:=G.out
    refine⟨0,v,Nat.zero_le _,?_,?_,?_,((Zb.refl _ W).alloc _).alloc _,fun k e=>.inl (.inr e),fun e=>by have:=hvl _ e;omega⟩
    · show ((W.alloc (.cells #[.int .i64 (y:Int),.int .i64 0] 37)).alloc (.stringIter (catB cs) 0)).heap[W.heap.size]?=_
      rw[Below.heap_alloc _ _ _ (by simp)]
      exact heap_alloc_new W _
    · have:=heap_alloc_new (W.alloc (.cells #[.int .i64 (y:Int),.int .i64 0] 37)) (.stringIter (catB cs) 0)
      rw[World.size_alloc] at this
      exact this
    · rw[pk_zero,List.append_nil]
      exact h1.keeps (F:=fun _=>False) (((Zb.refl _ W).alloc _).alloc _) (fun e=>e) (fun _ _ e=>e)
   case round =>
    obtain⟨h1,hO3,hO3',z0,z1,hcov,hsn,hlen,hch,h2,hvl⟩:=G.out
    obtain⟨k,v',hk,hp,hi,hbv,hkp,hg,hne⟩:=hrel
    have hbpl:=Zc hp
    have hbil:=Zc hi
    by_cases hlt:k<cs.length
    · obtain⟨ch,hchk⟩:∃ ch,cs[k]?=some ch:=⟨_,List.getElem?_eq_getElem hlt⟩
      obtain⟨R,hd,hR,hR1,hp3,hsz⟩:=cat_rune cs hch k ch hchk
      have hch0:ch.size≠0:=(hch ch (List.mem_of_getElem? hchk)).1
      have hnx:=fun ty=>Lib.run_next_any_at (P:=Tryz.prog) _ (W.heap.size+1) (catB cs) _ ty hi hp3
      rw[hd] at hnx
      simp only at hnx
      obtain⟨q,hq⟩:∃ q,(catB (cs.take k)).size=q:=⟨_,rfl⟩
      rw[hq] at hnx hi hp3 hsz
      have hi2:=Lib.iterAt_heap wr (W.heap.size+1) (catB cs) _ (q+ch.size) hi
      have hki:Zb (fun k=>k=W.heap.size+1) wr (wr.iterAt (W.heap.size+1) (catB cs) (q+ch.size)):=Zdq (Zb.refl (fun k=>k=W.heap.size+1) wr) (k:=W.heap.size+1) (.inl rfl) _ _
      have hkp2:=Zdq hkp (k:=W.heap.size+1) (.inr (by omega)) (catB cs) (q+ch.size)
      have hbv2:BldV (w.heap.size+2) v' (Lib.strCells (catB (out++pk cs cf k))) (wr.iterAt (W.heap.size+1) (catB cs) (q+ch.size)):=by
       refine hbv.keeps hki (by omega) (fun j e e2=>?_)
       subst e2
       obtain⟨_,ho2,_⟩:=hbv
       rcases ho2.2 with ⟨hv,_⟩|⟨g,cap',cur,hv,_,hh,_⟩
       · rw[hv] at e;cases e
       · rw[hv] at e
         cases e
         rw[hi] at hh;cases hh
      have hp2:(wr.iterAt (W.heap.size+1) (catB cs) (q+ch.size)).heap[W.heap.size]?=some (.cells #[.int .i64 (y:Int),.int .i64 (k:Int)] 37 (0,0)):=by
       rw[hki.block _ hbpl (by omega)];exact hp
      have zz1:=(hkp2.block _ (Zc z1) (fun e=>hO3' _ e (by omega))).trans z1
      have zz0:=(hkp2.block _ (Zc z0) (fun e=>hO3' _ e (by omega))).trans z0
      obtain⟨wi,hwi⟩:∃ wi,wr.iterAt (W.heap.size+1) (catB cs) (q+ch.size)=wi:=⟨_,rfl⟩
      rw[hwi] at hi2 hki hkp2 hbv2 hp2 zz1 zz0 hnx
      have CC:=hid (hcov k hlt wi hkp2)
      have cp0:=Za hp2 0
      have cp1:=Za hp2 1
      have c00:=Za zz0 0
      have c10:=Za zz1 0
      have c11:=Za zz1 1
      have c12:=Za zz1 2
      have c13:=Za zz1 3
      have IP:=iterPos_of hi
      have hwil:wi.heap.size=wr.heap.size:=by rw[← hwi,Lib.iterAt_size]
      have hlen2:=hlen k hk
      have hsz1:(catB cs).size - (q+ch.size)<(catB cs).size - q:=by omega
      have H:=hid (And.intro hi2 (And.intro hkp2 (And.intro hbv2 (And.intro hp2 (And.intro hg (And.intro hne (And.intro hsz (And.intro hlen2 (And.intro hR hchk)))))))))
      have HWI:=hid hwi
      have HG:=hid (And.intro hO3' hvl)
      clear hi2 hkp2 hbv2 hp2 hg hne hsz hlen2 hR hchk h1 hO3 hO3' z0 z1 hcov hsn hlen hch h2 hvl hp hi hbv hkp hki zz0 zz1 hd hwi hp3 hq
      cases hck:cf k with
      | true =>
        rw[hck] at CC
        gi_wp2_with (first
         | (refine⟨trivial,fun h=>by simp[Fence.wide] at h,?_⟩
            gi_at_call 159
            refine(CallsIn.inRound l' (callsIn_wide.2 CC.out)).mono ?_
            rintro e w6 ⟨rfl,hb6⟩
            obtain⟨hi2,hkp2,hbv2,hp2,hg,hne,hsz,hlen2,hR,hchk⟩:=H.out
            have hk6:Zb (fun _=>False) wi w6:=Zb.of_below hb6
            have CR:=hid (bruneV (R:Int) (by omega) (by omega) (hbv2.keeps hk6 (fun e=>e) (fun _ _ e=>e)) hlen2)
            rw[hR] at CR
            have H6:=hid hk6
            have hs6:=hb6.size
            clear hi2 hkp2 hbv2 hp2 hg hne hsz hlen2 hR hchk hk6 hb6)
         | (refine⟨trivial,fun h=>by simp[Fence.wide] at h,?_⟩
            gi_at_call 160
            refine(CallsIn.inRound l' (callsIn_wide.2 CR.out)).mono ?_
            rintro e w7 ⟨n7,v7,rfl,hbv7,hk7,hg7,hi7⟩
            obtain⟨hi2,hkp2,hbv2,hp2,hg,hne,hsz,hlen2,hR,hchk⟩:=H.out
            have hp6:=(H6.out.block _ (Zc hp2) (fun e=>e)).trans hp2
            have hp7:=(hk7.block _ (Zc hp6) (fun e=>e.elim (fun e=>by omega) (fun e=>hne e))).trans hp6
            have cq1:=Za hp7 1
            have cf1:=Zd hp7 1
            have H7:=hid (And.intro hbv7 (And.intro hk7 (And.intro hg7 (And.intro hi7 hp7))))
            clear hi2 hkp2 hbv2 hp2 hg hne hsz hlen2 hR hchk hp6 hp7 hbv7 hk7 hg7 hi7))
        obtain⟨hi2,hkp2,hbv2,hp2,hg,hne,hsz,hlen2,hR,hchk⟩:=H.out
        obtain⟨hbv7,hk7,hg7,hi7,hp7⟩:=H7.out
        have hi8:(w7.setCell ⟨W.heap.size,1,none⟩ (.int .i64 ((k:Int)+1))).heap[W.heap.size+1]?=some (.stringIter (catB cs) (q+ch.size)) :=
         ZH.setCell _ hp7 _ _ _ (hi7 _ _ _ ((H6.out.block _ (Zc hi2) (fun e=>e)).trans hi2))
        have hkS:=(Zb.refl (fun j=>j=W.heap.size) w7).setCell (p:=⟨W.heap.size,1,none⟩) (.inl rfl) (.int .i64 ((k:Int)+1))
        have hne7:v7.ownBlock≠some W.heap.size:=fun e=>by
         rcases hg7 _ e with e1|e1
         · exact hne e1
         · omega
        go_roundw
        case rel =>
         refine⟨k+1,v7,by omega,?_,by rw[hsz];exact hi8,?_,?_,?_,hne7⟩
         · rw[heap_setCell_same w7 _ 1 _ _ _ hp7];rfl
         · have:=hbv7.keeps hkS (by omega) (fun j e e2=>hne7 (e2 ▸ e))
           have e1:catB [ch]=ch:=by show ByteArray.empty++ch=ch;simp
           rw[ZbY,hck,if_pos rfl,hchk,← List.append_assoc,Yo,Y4,Option.toList_some,e1]
           exact this
         · refine(((hkp2.trans (H6.out.mono (fun j _ e=>e.elim))).trans (hk7.mono (fun j _ e=>?_))).setCell (p:=⟨W.heap.size,1,none⟩) (.inr (Nat.le_refl _)) _)
           rcases e with e|e
           · exact .inl (.inl e)
           · exact hg j e
         · intro j e
           rcases hg7 j e with e1|e1
           · exact hg j e1
           · exact .inr (by omega)
        case measure =>
         rw[iterPos_of hi8,IP]
         exact hsz1
      | false =>
        rw[hck] at CC
        gi_wp2_with (
         refine⟨trivial,fun h=>by simp[Fence.wide] at h,?_⟩
         gi_at_call 159
         refine(CallsIn.inRound l' (callsIn_wide.2 CC.out)).mono ?_
         rintro e w7 ⟨rfl,hb6⟩
         obtain⟨hi2,hkp2,hbv2,hp2,hg,hne,hsz,hlen2,hR,hchk⟩:=H.out
         have hk6:Zb (fun _=>False) wi w7:=Zb.of_below hb6
         have H6:=hid hk6
         have hs6:=hb6.size
         have hp7:=(hk6.block _ (Zc hp2) (fun e=>e)).trans hp2
         have cq1:=Za hp7 1
         have cf1:=Zd hp7 1
         have H7:=hid hp7
         clear hi2 hkp2 hbv2 hp2 hg hne hsz hlen2 hR hchk hk6 hb6 hp7)
        obtain⟨hi2,hkp2,hbv2,hp2,hg,hne,hsz,hlen2,hR,hchk⟩:=H.out
        have hp7:=H7.out
        have hi8:(w7.setCell ⟨W.heap.size,1,none⟩ (.int .i64 ((k:Int)+1))).heap[W.heap.size+1]?=some (.stringIter (catB cs) (q+ch.size)) :=
         ZH.setCell _ hp7 _ _ _ ((H6.out.block _ (Zc hi2) (fun e=>e)).trans hi2)
        have hkS:=(Zb.refl (fun j=>j=W.heap.size) w7).setCell (p:=⟨W.heap.size,1,none⟩) (.inl rfl) (.int .i64 ((k:Int)+1))
        go_roundw
        case rel =>
         refine⟨k+1,v',by omega,?_,by rw[hsz];exact hi8,?_,?_,hg,hne⟩
         · rw[heap_setCell_same w7 _ 1 _ _ _ hp7];rfl
         · have:=(hbv2.keeps H6.out (fun e=>e) (fun _ _ e=>e)).keeps hkS (by omega) (fun j e e2=>hne (e2 ▸ e))
           rw[ZbY,hck,if_neg (by decide),List.append_nil]
           exact this
         · exact((hkp2.trans (H6.out.mono (fun j _ e=>e.elim))).setCell (p:=⟨W.heap.size,1,none⟩) (.inr (Nat.le_refl _)) _)
        case measure =>
         rw[iterPos_of hi8,IP]
         exact hsz1
    · obtain rfl:k=cs.length:=by omega
      rw[List.take_length] at hi
      have hnx:=fun ty=>Lib.run_next_end_at (P:=Tryz.prog) _ (W.heap.size+1) (catB cs) _ ty hi (Nat.lt_irrefl _)
      have H:=hid (And.intro hbv (And.intro hkp hg))
      have HG:=hid (And.intro hsn h2)
      clear h1 hO3 hO3' z0 z1 hcov hsn hlen hch h2 hvl hp hbv hkp hg hi
      gi_wp2
      obtain⟨hbv,hkp,hg⟩:=H.out
      obtain⟨hsn,h2⟩:=HG.out
      have hs:Stp (fun k=>k=w.heap.size+2∨v.ownBlock=some k) (fun k=>k=w.heap.size+2∨v'.ownBlock=some k) W wr:=by
       refine⟨hkp,?_,?_⟩
       · rintro j (e|e)
         · exact .inl (.inl e)
         · exact hg j e
       · rintro j (e|e)
         · rw[e];exact hbv.lt
         · exact(hbv.2.1.lt j e).2
      exact⟨_,hs,v',rfl,by rw[hsn];exact hbv,h2.trans hs⟩
  case done =>
   rintro O5 W st5 hn5 ⟨v,rfl,h1,h2⟩ hD5
   have CS:=hid (bstringV (catB (Yf s (plF s (B+1) t) a b c d (allF s (B+1) t))).data.toList h1)
   have H:=hid (And.intro st5 (And.intro hn5 hD5))
   have HZ:=hid hszb
   clear st5 hn5 h1 h2 hD5 x0 x1 x2 x3 x4 hszb hDb hb1 y0 y1 y2 hb0 hwb
   gi_wp2_with (refine⟨trivial,?_⟩;gi_at_call 148;refine(callsIn_wide.2 CS.out).mono ?_;rintro e w5 ⟨rfl,hk5⟩)
   obtain⟨st5,hn5,hD5⟩:=H.out
   have hszb:=HZ.out
   refine Y9 [wb.heap.size] _ (by simp) (fun D hm=>?_) (fun w' hk'=>⟨.string (catB (Yf s (plF s (B+1) t) a b c d (allF s (B+1) t))),?_,rfl,?_⟩)
   · obtain rfl:D=wb.heap.size:=by simpa using hm
     rw[hk5.block _ (Zc hD5) (fun e=>hn5 (.inr e))]
     exact hD5
   · exact results_tmp (fn:=Tryz.f112) (t:=4) rfl _ _ _
   · have k1:Zb (fun _=>False) w wb:=Zb.of_below hbb
     have k2:Zb (fun _=>False) w W:=k1.trans (st5.keeps.mono (fun k _ e=>.inr (by omega)))
     have k3:Zb (fun _=>False) w w5:=k2.trans (hk5.mono (fun k _ e=>.inr (by
      rcases st5.gains k (.inr e) with e1|e1 <;> omega)))
     exact(k3.trans (hk'.mono (fun k _ e=>.inr (by simp at e;omega)))).below
  case stop =>
   rintro O5 pre W hpre st5 hn5 h hD5
   exact h.elim
end
section
open Go.RowKit
section
variable {w:World} {F:Nat→Prop} {bx bf bl:Nat} {sv:Value} {s:List Nd} {rs:List Sp}
theorem lread_no (hD:Zk w F bx bf bl sv ⟨s,rs⟩) (r:Int) (h:r < 0∨(rs.length:Int)≤r) :
 Calls Tryz.prog 67 #[ptr bl,.int .i64 r] w fun e w'=>e=.returned (.tuple #[.string ⟨#[]⟩,.iface 141 (.agg #[.int .i64 r])])∧Below w.heap.size w w':=by
 have C:=hid (J0 hD r h)
 clear hD h
 go_enter Tryz.func67,Tryz.ntmps67
 go_wp2_with (
  go_at_call 69
  refine C.out.mono ?_
  rintro e w1 ⟨rfl,hb1⟩
  have HB1:=hid hb1
  clear hb1)
 go_ret2
 exact⟨rfl,HB1.out.alloc HB1.out.size _⟩
theorem lread_ok (hD:Zk w F bx bf bl sv ⟨s,rs⟩) (r:Nat) (x:Sp) (hx:rs[r]?=some x) (z:ByteArray)
 (hT:∀ W,Below w.heap.size w W→Calls Tryz.prog 112 #[ptr bf,spV x] W fun e w'=>e=.returned (.string z)∧Below W.heap.size W w') :
 Calls Tryz.prog 67 #[ptr bl,.int .i64 (r:Int)] w fun e w'=>e=.returned (.tuple #[.string z,.nilIface])∧Below w.heap.size w w':=by
 have C:=hid (J1 hD r x hx)
 have c0:w.cell? ⟨bl,0,none⟩=some (ptr bf):=Za hD.list 0
 have hll:=Zc hD.list
 have HT:=hid hT
 clear hD hx hT
 go_enter Tryz.func67,Tryz.ntmps67
 go_wp2_with (
  go_at_call 69
  refine C.out.mono ?_
  rintro e w1 ⟨rfl,hb1⟩
  have d0:=(hb1.cell (p:=⟨bl,0,none⟩) hll).trans c0
  have hs1:=hb1.size
  have hne:¬ bl=w1.heap.size:=by omega
  have HB1:=hid (hb1.alloc hb1.size (.cells #[.int .i64 x.a,.int .i64 x.b,.int .i64 x.c,.int .i64 x.d] 79))
  have HS1:=hid (heap_alloc_new w1 (.cells #[.int .i64 x.a,.int .i64 x.b,.int .i64 x.c,.int .i64 x.d] 79))
  have D0:=hid ((Below.heap_alloc w1 (.cells #[.int .i64 x.a,.int .i64 x.b,.int .i64 x.c,.int .i64 x.d] 79) bl (by omega)))
  clear hb1)
 go_region_held3 (fun w'=>w'.cell? ⟨bl,0,none⟩=some (ptr bf)∧w'.cell? ⟨w1.heap.size,0,none⟩=some (.int .i64 x.a)∧w'.cell? ⟨w1.heap.size,1,none⟩=some (.int .i64 x.b)∧w'.cell? ⟨w1.heap.size,2,none⟩=some (.int .i64 x.c)∧w'.cell? ⟨w1.heap.size,3,none⟩=some (.int .i64 x.d)) (first|exact KP.out|go_keep) ((
  go_at_call 112
  refine(HT.out _ HB1.out.drew).mono ?_
  rintro e w2 ⟨rfl,hb2'⟩
  have hb2:Below (w1.alloc (.cells #[.int .i64 x.a,.int .i64 x.b,.int .i64 x.c,.int .i64 x.d] 79)).heap.size (w1.alloc (.cells #[.int .i64 x.a,.int .i64 x.b,.int .i64 x.c,.int .i64 x.d] 79)) w2:=⟨hb2'.os,hb2'.tape,hb2'.output,hb2'.size,hb2'.block⟩
  have hs2:=(hb2.block w1.heap.size (by simp)).trans HS1.out
  have d2:w2.cell? ⟨bl,0,none⟩=some (ptr bf):=by
   have hk:Zb (fun _=>False) w1 w2:=((Zb.refl _ w1).alloc _).trans (Zb.of_below hb2)
   exact hk.cell d0 (fun e=>e)
  have KP:=hid (And.intro d2 (And.intro (show w2.cell? ⟨w1.heap.size,0,none⟩=some (.int .i64 x.a) from Za hs2 0) (And.intro (show w2.cell? ⟨w1.heap.size,1,none⟩=some (.int .i64 x.b) from Za hs2 1) (And.intro (show w2.cell? ⟨w1.heap.size,2,none⟩=some (.int .i64 x.c) from Za hs2 2) (show w2.cell? ⟨w1.heap.size,3,none⟩=some (.int .i64 x.d) from Za hs2 3)))))
  have HB2:=hid (HB1.out.trans (hb2.mono HB1.out.size))
  clear hb2 hb2' hs2 d2))
 all_goals
  go_wp2
  go_ret2
  exact⟨rfl,HB2.out⟩
end
theorem ZdI {w:World} {F:Nat→Prop} {bx:Nat} {s:List Nd} {rs:List Sp} (hg:GG w) (hP:Zv w F bx ⟨s,rs⟩) (r:Int) (z:ByteArray) (v:Value) (hv:v=.nilIface∨∃ t u,v=.iface t u) {a y:Int} (hE:Z2 v a y)
 (hS:∀ bf bl sv,Zk w F bx bf bl sv ⟨s,rs⟩→Calls Tryz.prog 67 #[ptr bl,.int .i64 r] w fun e w'=>e=.returned (.tuple #[.string z,v])∧Below w.heap.size w w') :
 Calls Tryz.prog 33 #[ptr bx,.int .i64 r] w (ZY F w bx ⟨s,rs⟩ (.tuple #[.string z,errV a y])):=by
 have HP:=hid hP
 obtain⟨bf,bl,sv,hD⟩:=hP
 have C:=hid (hS _ _ _ hD)
 have c1:w.cell? ⟨bx,1,none⟩=some (ptr bl):=Za hD.doc 1
 have E:=hid (fun w1 (hb:Below w.heap.size w w1)=>hE w1 (hg.below hb).1)
 clear hD hS hg hE
 rcases hv with rfl|⟨t,u,rfl⟩
 all_goals
  go_enter Tryz.func33,Tryz.ntmps33
  go_wp2_with (first
   | (go_at_call 67;refine C.out.mono ?_;rintro e w1 ⟨rfl,hb1⟩
      have HB1:=hid hb1
      clear hb1)
   | (go_at_call 46;refine(E.out _ HB1.out).mono ?_;rintro e w2 ⟨rfl,hb2⟩
      have HB2:=hid (HB1.out.trans (hb2.mono HB1.out.size))
      clear hb2))
  go_ret2
  exact⟨rfl,HP.out.after HB2.out⟩
end
section
open Go.RowKit Go.Lib
theorem Zai (bf:Nat) (n o e:Int) (w:World):Calls Tryz.prog 187 #[ptr bf,.int .i64 n,.int .i64 o,.int .i64 e] w fun r w' =>
 r=.returned (.func (.func 198) #[] #[ptr w.heap.size,ptr (w.heap.size+1),ptr (w.heap.size+2),ptr (w.heap.size+3)])∧w'=(((w.alloc (.cells #[ptr bf] 91)).alloc (.cells #[.int .i64 n] 3)).alloc (.cells #[.int .i64 o] 3)).alloc (.cells #[.int .i64 e] 3):=by
 go_enter Tryz.func187,Tryz.ntmps187
 go_wp2
 go_ret
 exact⟨rfl,rfl⟩
def FnAt (w:World) (C:Nat→Prop) (bf:Nat):Dact→Value→Prop
 | (n,some (o,e)),cv=>∃ x0 x1 x2 x3,cv=.func (.func 198) #[] #[ptr x0,ptr x1,ptr x2,ptr x3]∧w.cell? ⟨x0,0,none⟩=some (ptr bf)∧w.cell? ⟨x1,0,none⟩=some (.int .i64 (n:Int))∧w.cell? ⟨x2,0,none⟩=some (.int .i64 (o:Int))∧w.cell? ⟨x3,0,none⟩=some (.int .i64 (e:Int))∧C x0∧C x1∧C x2∧C x3
 | (i,none),cv=>∃ x0 x1,cv=.func (.func 189) #[] #[ptr x0,ptr x1]∧w.cell? ⟨x0,0,none⟩=some (ptr bf)∧w.cell? ⟨x1,0,none⟩=some (.int .i64 (i:Int))∧C x0∧C x1
theorem FnAt.keeps {w W:World} {C:Nat→Prop} {bf:Nat} {act:Dact} {cv:Value} {G:Nat→Prop} (h:FnAt w C bf act cv) (hk:Zb G w W) (hG:∀ b,C b→¬ G b):FnAt W C bf act cv:=by
 obtain⟨n,oe⟩:=act
 cases oe with
 | none =>
   obtain⟨x0,x1,e,h0,h1,l0,l1⟩:=h
   exact⟨x0,x1,e,hk.cell h0 (hG _ l0),hk.cell h1 (hG _ l1),l0,l1⟩
 | some oe =>
   obtain⟨o,e'⟩:=oe
   obtain⟨x0,x1,x2,x3,e,h0,h1,h2,h3,l0,l1,l2,l3⟩:=h
   exact⟨x0,x1,x2,x3,e,hk.cell h0 (hG _ l0),hk.cell h1 (hG _ l1),hk.cell h2 (hG _ l2),hk.cell h3 (hG _ l3),l0,l1,l2,l3⟩
theorem FnAt.wider {w:World} {C C':Nat→Prop} {bf:Nat} {act:Dact} {cv:Value} (h:FnAt w C bf act cv) (hC:∀ b,C b→C' b):FnAt w C' bf act cv:=by
 obtain⟨n,oe⟩:=act
 cases oe with
 | none =>
   obtain⟨x0,x1,e,h0,h1,l0,l1⟩:=h
   exact⟨x0,x1,e,h0,h1,hC _ l0,hC _ l1⟩
 | some oe =>
   obtain⟨o,e'⟩:=oe
   obtain⟨x0,x1,x2,x3,e,h0,h1,h2,h3,l0,l1,l2,l3⟩:=h
   exact⟨x0,x1,x2,x3,e,h0,h1,h2,h3,hC _ l0,hC _ l1,hC _ l2,hC _ l3⟩
theorem cut1_run {W:World} {F:Nat→Prop} {f:Mvf} {s':List Nd} {bf n o e x0 x1 x2 x3:Nat} (h0:W.cell? ⟨x0,0,none⟩=some (ptr bf)) (h1:W.cell? ⟨x1,0,none⟩=some (.int .i64 (n:Int))) (h2:W.cell? ⟨x2,0,none⟩=some (.int .i64 (o:Int))) (h3:W.cell? ⟨x3,0,none⟩=some (.int .i64 (e:Int))) (hoe:o≤e) (he:e≤30)
 (hT:Calls Tryz.prog 68 #[ptr bf,.int .i64 (n:Int),.int .i64 (o:Int),.int .i64 ((e:Int) - (o:Int)),.string ⟨#[]⟩] W (TMv f F W bf s')) :
 Calls Tryz.prog 198 #[ptr x0,ptr x1,ptr x2,ptr x3] W (TMv f F W bf s'):=by
 have l0:=World.block_lt_of_cell? W _ h0
 have l1:=World.block_lt_of_cell? W _ h1
 have l2:=World.block_lt_of_cell? W _ h2
 have l3:=World.block_lt_of_cell? W _ h3
 have C:=hid hT
 have q1:IntKind.i64.wrap ((e:Int) - (o:Int))=(e:Int) - (o:Int):=by rw[IntKind.wrap_i64];omega
 clear hT
 go_enter Tryz.func198,Tryz.ntmps198
 go_wp2_with (
  go_at_call 68
  refine C.out.mono ?_
  rintro r w1 ⟨mv,m,rfl,hk,h1',h2',hf,hm⟩
  obtain⟨gf,lb,rfl,hE,hR⟩:=hm.runs
  have H1:=hid (And.intro hk (And.intro h1' (And.intro h2' (And.intro hf (ZR.mk ⟨gf,lb,rfl,hE,hR⟩)))))
  clear hk h1' h2' hf hm hE hR)
 go_ret2
 obtain⟨hk,h1',h2',hf,hm⟩:=H1.out
 exact⟨_,m,rfl,hk,h1',h2',hf,hm⟩
theorem rem1_run {W:World} {F:Nat→Prop} {f:Mvf} {s':List Nd} {bf i x0 x1:Nat} (h0:W.cell? ⟨x0,0,none⟩=some (ptr bf)) (h1:W.cell? ⟨x1,0,none⟩=some (.int .i64 (i:Int)))
 (hT:Calls Tryz.prog 97 #[ptr bf,.int .i64 (i:Int)] W (TMv f F W bf s')) :
 Calls Tryz.prog 189 #[ptr x0,ptr x1] W (TMv f F W bf s'):=by
 have l0:=World.block_lt_of_cell? W _ h0
 have l1:=World.block_lt_of_cell? W _ h1
 have C:=hid hT
 clear hT
 go_enter Tryz.func189,Tryz.ntmps189
 go_wp2_with (
  go_at_call 97
  refine C.out.mono ?_
  rintro r w1 ⟨mv,m,rfl,hk,h1',h2',hf,hm⟩
  obtain⟨gf,lb,rfl,hE,hR⟩:=hm.runs
  have H1:=hid (And.intro hk (And.intro h1' (And.intro h2' (And.intro hf (ZR.mk ⟨gf,lb,rfl,hE,hR⟩)))))
  clear hk h1' h2' hf hm hE hR)
 go_ret2
 obtain⟨hk,h1',h2',hf,hm⟩:=H1.out
 exact⟨_,m,rfl,hk,h1',h2',hf,hm⟩
theorem ZcI:Zr ⟨#[]⟩=some []:=by
 unfold Zr
 rfl
theorem fn_run {W:World} {F C:Nat→Prop} {bf:Nat} {act:Dact} {cv:Value} {s s':List Nd} {f:Mvf} (h:FnAt W C bf act cv) (hD:PFor W F bf s) (hc:Chg s act s' f) (wf:WF s) (hT:Tabs W) :
 ∃ gf lb,cv=.func (.func gf) #[] lb∧(∀ args w,(callFunc gf args).run Tryz.prog w=.ok (.enter gf args) w)∧Calls Tryz.prog gf lb W (TMv f F W bf s'):=by
 have hcap:=wf.cap
 cases hc with
 | @cut n o e x hx ht h1 h2 =>
   obtain⟨x0,x1,x2,x3,rfl,c0,c1,c2,c3,_⟩:=h
   refine⟨_,_,rfl,enters_of Tryz.func198 (by kernel_rfl) rfl,?_⟩
   have hch:=wf.chars n x hx
   refine cut1_run c0 c1 c2 c3 h1 (by omega) ?_
   have hY:YE (30 - o - (x.cs.length - (o+(e - o)))) ⟨#[]⟩ []:=⟨ZcI,Nat.zero_le _⟩
   have hR:=ZeB hD n o ((e:Int) - (o:Int)) ⟨#[]⟩ x hx ht hch.1 hch.2 (by omega) [] (x.cs.take o++[]++x.cs.drop (o+(e - o))) ZcI (by simp) (by omega) (fun w1 hb =>
    Zen x.cs hch.2 hch.1 o (e - o) ((e:Int) - (o:Int)) (by omega) (by omega) (by omega) (by omega) ⟨#[]⟩ (by unfold lots;show (0:Nat)<_;omega) [] hY w1 (hT.below hb))
   have hmin:min ((e:Int) - (o:Int)) ((x.cs.length:Int) - o)=((e - o:Nat):Int):=by omega
   rw[hmin] at hR
   exact hR
 | @rem i j k x y h2 H2 hx hj hy hk hno hij wf2 u2 =>
   obtain⟨x0,x1,rfl,c0,c1,_⟩:=h
   refine⟨_,_,rfl,enters_of Tryz.func189 (by kernel_rfl) rfl,?_⟩
   have hkl:=XT wf hy
   exact rem1_run c0 c1 (ZeA hD i j k x y hx hj hy hk hno hij (by unfold lots;omega) (by unfold lots;omega) wf2 u2)
end
section
open Go.RowKit
section
variable {PD:PDT} {G:World→Prop} {FP FR:Nat→Prop} {w:World} {yb bx bd:Nat} {psv:Value} {s:St}
theorem Zhc (hPD:PDOk PD) (hGB:∀ w w',G w→Below w.heap.size w w'→G w') (hA:ZU PD FP FR w yb bx bd psv s) (hg:G w)
 (D A B C:Int) (S:ByteArray) (p0 p1 q0 q1:Int) (h:∃ b:ByteArray,Ans PD G s 33 85 [.int .i64 A] (fun v=>.tuple #[.string b,v]) (fun v=>.tuple #[.string b,v])) :
 Calls Tryz.prog 44 #[ptr yb,.agg #[ptr bx,ptr bd],opV 14 D A B C S p0 p1 q0 q1] w (Z8 PD FP FR w yb bx bd psv):=by
 obtain⟨b,a,y,s',hwf,hp,hr⟩:=h
 have hB:=Ys w bx bd 14 D A B C S p0 p1 q0 q1
 have hbp:=Yu w bx bd 14 D A B C S p0 p1 q0 q1
 have hbo:=Yt w bx bd 14 D A B C S p0 p1 q0 q1
 have CP:=hid (hp (Z9 w bx bd 14 D A B C S p0 p1 q0 q1) FP bx (hGB _ _ hg hB) (hPD.keeps hA.pd (Zb.of_below (F:=fun _=>False) hB) (fun _ _ e=>e)))
 have HB:=hid hB
 have HBP:=hid hbp
 have HBO:=hid hbo
 have HR:=hid hr
 have HA:=hid hA
 have HPD:=hid hPD
 have HWF:=hid hwf
 clear hp hr hB hbp hbo hA hPD hwf hg hGB
 have hbb:(b.toList == b.toList)=true:=by simp
 go_enter Tryz.func44,Tryz.ntmps44
 go_wp2_with (first
  | (go_at_call 33
     refine CP.out.mono ?_
     clear CP
     rintro e w1 ⟨rfl,k1,d1⟩
     have hp1:=HA.out.old k1 (Nat.le_refl _) HBP.out
     have ho1:=HA.out.old k1 (Nat.le_succ _) HBO.out
     have c10:w1.cell? ⟨w.heap.size,0,none⟩=some (ptr bx):=Za hp1 0
     have c11:w1.cell? ⟨w.heap.size,1,none⟩=some (ptr bd):=Za hp1 1
     have c22:w1.cell? ⟨w.heap.size+1,2,none⟩=some (.int .i64 A):=Za ho1 2
     have c23:w1.cell? ⟨w.heap.size+1,3,none⟩=some (.int .i64 B):=Za ho1 3
     have c24:w1.cell? ⟨w.heap.size+1,4,none⟩=some (.int .i64 C):=Za ho1 4
     have c25:w1.cell? ⟨w.heap.size+1,5,none⟩=some (.string S):=Za ho1 5
     have CR:=hid (HR.out w1 FR bd (HA.out.ref HB.out k1))
     have K1:=hid k1
     have D1:=hid d1
     clear k1 d1 hp1 ho1)
  | (go_at_call 85
     refine CR.out.mono ?_
     clear CR
     rintro e w2 ⟨rfl,k2,r2⟩
     have PL:=hid (HA.out.play2 HB.out K1.out k2)
     have K2:=hid k2
     have R2:=hid r2
     clear k2 r2)
  | (go_at_call 20
     obtain⟨l0,a0,y0,-,hq⟩:=PL.out
     refine(Yx yb psv l0 a0 y0 a y (w2.alloc (.cells #[.int .i64 a,.int .i64 y] 32)) ((Below.heap_alloc _ _ _ (Zc hq)).trans hq)).mono ?_
     rintro e w4 ⟨rfl,k4,hq4⟩
     have K4:=hid k4
     have Q4:=hid hq4
     clear k4 hq4 hq))
 go_ret
 exact Yy HPD.out HA.out HWF.out HB.out K1.out D1.out K2.out R2.out ((((Zb.refl (fun b=>b=yb) w2).alloc _)).trans (K4.out.mono (fun k _ e=>.inl e))) ⟨_,_,_,rfl,Q4.out⟩
theorem Zg9 (hPD:PDOk PD) (hGB:∀ w w',G w→Below w.heap.size w w'→G w') (hA:ZU PD FP FR w yb bx bd psv s) (hg:G w)
 (D A B C:Int) (S:ByteArray) (p0 p1 q0 q1:Int) (h:Ans PD G s 37 86 [.int .i64 A] (fun v=>v) (fun v=>v)) :
 Calls Tryz.prog 44 #[ptr yb,.agg #[ptr bx,ptr bd],opV 15 D A B C S p0 p1 q0 q1] w (Z8 PD FP FR w yb bx bd psv):=by
 obtain⟨a,y,s',hwf,hp,hr⟩:=h
 have hB:=Ys w bx bd 15 D A B C S p0 p1 q0 q1
 have hbp:=Yu w bx bd 15 D A B C S p0 p1 q0 q1
 have hbo:=Yt w bx bd 15 D A B C S p0 p1 q0 q1
 have CP:=hid (hp (Z9 w bx bd 15 D A B C S p0 p1 q0 q1) FP bx (hGB _ _ hg hB) (hPD.keeps hA.pd (Zb.of_below (F:=fun _=>False) hB) (fun _ _ e=>e)))
 have HB:=hid hB
 have HBP:=hid hbp
 have HBO:=hid hbo
 have HR:=hid hr
 have HA:=hid hA
 have HPD:=hid hPD
 have HWF:=hid hwf
 clear hp hr hB hbp hbo hA hPD hwf hg hGB
 go_enter Tryz.func44,Tryz.ntmps44
 go_wp2_with (first
  | (go_at_call 37
     refine CP.out.mono ?_
     clear CP
     rintro e w1 ⟨rfl,k1,d1⟩
     have hp1:=HA.out.old k1 (Nat.le_refl _) HBP.out
     have ho1:=HA.out.old k1 (Nat.le_succ _) HBO.out
     have c10:w1.cell? ⟨w.heap.size,0,none⟩=some (ptr bx):=Za hp1 0
     have c11:w1.cell? ⟨w.heap.size,1,none⟩=some (ptr bd):=Za hp1 1
     have c22:w1.cell? ⟨w.heap.size+1,2,none⟩=some (.int .i64 A):=Za ho1 2
     have c23:w1.cell? ⟨w.heap.size+1,3,none⟩=some (.int .i64 B):=Za ho1 3
     have c24:w1.cell? ⟨w.heap.size+1,4,none⟩=some (.int .i64 C):=Za ho1 4
     have c25:w1.cell? ⟨w.heap.size+1,5,none⟩=some (.string S):=Za ho1 5
     have CR:=hid (HR.out w1 FR bd (HA.out.ref HB.out k1))
     have K1:=hid k1
     have D1:=hid d1
     clear k1 d1 hp1 ho1)
  | (go_at_call 86
     refine CR.out.mono ?_
     clear CR
     rintro e w2 ⟨rfl,k2,r2⟩
     have PL:=hid (HA.out.play2 HB.out K1.out k2)
     have K2:=hid k2
     have R2:=hid r2
     clear k2 r2)
  | (go_at_call 20
     obtain⟨l0,a0,y0,-,hq⟩:=PL.out
     refine(Yx yb psv l0 a0 y0 a y w2 hq).mono ?_
     rintro e w4 ⟨rfl,k4,hq4⟩
     have K4:=hid k4
     have Q4:=hid hq4
     clear k4 hq4 hq))
 go_ret
 exact Yy HPD.out HA.out HWF.out HB.out K1.out D1.out K2.out R2.out K4.out ⟨_,_,_,rfl,Q4.out⟩
end
structure Xh (PD:PDT) (G:World→Prop):Prop extends Answers3 PD G where
 compare:Zbe PD G
 read:∀ s,PD.ok s→∀ A:Int,∃ b:ByteArray,Ans PD G s 33 85 [.int .i64 A] (fun v=>.tuple #[.string b,v]) (fun v=>.tuple #[.string b,v])
 delete:∀ s,PD.ok s→∀ A:Int,Ans PD G s 37 86 [.int .i64 A] (fun v=>v) (fun v=>v)
theorem Zib {PD:PDT} {G:World→Prop} (hA:Xh PD G) {Q:Nat→Prop} {w0:World} {yb:Nat} (hG:∀ W,Zb Q w0 W→G W) (o:OpR) (ho:OpOk o) (hk:14≤o.kind∧o.kind≤15) (W:World) (docs:List DocR) (hI:InvE PD Q w0 W yb docs) (hdl:docs.length < lots) :
 Calls Tryz.prog 15 #[ptr yb,o.val] W (YJ PD Q w0 yb docs.length docs.length):=by
 obtain⟨kind,D,A,B,C,S,p0,p1,q0,q1⟩:=o
 obtain⟨d1,d2,hs⟩:=ho
 simp only at d1 d2 hs hk
 by_cases h0:docs.length=0
 · exact J7 hA.pd hI kind D A B C S p0 p1 q0 q1 (by omega) (.inl h0)
 refine Zep hA.pd hI kind D A B C S p0 p1 q0 q1 (by omega) (by omega) (by omega) hdl d1 d2 (fun W1 own psv i d hd hI1=>?_)
 have hp:=hI1.pair hd
 have hwf:=(hI1.doc i d hd).2.2
 have hg:=hG _ hI1.fr
 have hc:kind=14∨kind=15:=by omega
 rcases hc with rfl|rfl
 · exact Zhc hA.pd hA.gb hp hg D A B C S p0 p1 q0 q1 (hA.read d.s hwf A)
 · exact Zg9 hA.pd hA.gb hp hg D A B C S p0 p1 q0 q1 (hA.delete d.s hwf A)
theorem Zie {PD:PDT} {G:World→Prop} (hA:Xh PD G) {Q:Nat→Prop} {w0:World} {yb:Nat} (hG:∀ W,Zb Q w0 W→G W):JA PD Q w0 yb (fun k=>1≤k∧k≤15):=by
 intro o ho hk W docs hI hdl
 by_cases h9:o.kind≤9
 · exact Zid hA.toAnswers2 hA.compare hG o ho ⟨hk.1,h9⟩ W docs hI hdl
 · by_cases h13:o.kind≤13
   · refine(Zif hA.toAnswers3 hG o ho ⟨by omega,h13⟩ W docs hI hdl).mono ?_
     rintro e w' ⟨he,docs',h,hm,hl⟩
     exact⟨he,docs',h,hm,by omega⟩
   · refine(Zib hA hG o ho ⟨by omega,hk.2⟩ W docs hI hdl).mono ?_
     rintro e w' ⟨he,docs',h,hm,hl⟩
     exact⟨he,docs',h,hm,by omega⟩
end
section
open Go.RowKit
theorem Zia {PD:PDT} {G:World→Prop} (hA:Xh PD G) {Q:Nat→Prop} {w0:World} {yb:Nat} (hG:∀ W,Zb Q w0 W→G W):JA PD Q w0 yb (fun _=>True):=by
 intro o ho _ W docs hI hdl
 by_cases h:1≤o.kind∧o.kind≤15
 · exact Zie hA hG o ho h W docs hI hdl
 · refine(J7 hA.pd hI o.kind o.D o.A o.B o.C o.S o.p0 o.p1 o.q0 o.q1 (by omega) (.inr (by omega))).mono ?_
   rintro e w' ⟨he,docs',h,hm,hl⟩
   exact⟨he,docs',h,hm,by omega⟩
theorem InvE.asked {PD:PDT} {Q:Nat→Prop} {w0 w:World} {yb:Nat} {docs:List DocR} (h:InvE PD Q w0 w yb docs):∃ (psv:Value) (a y:Int),w.heap[yb]?=some (.cells #[psv,errV a y,.int .i64 a,.int .i64 y] 34 (0,0)):=by
 obtain⟨own,psv,h⟩:=h
 obtain⟨l0,a0,y0,rfl,hq⟩:=h.play
 exact⟨psv,a0,y0,hq⟩
theorem Zjc {PD:PDT} {w:World} (a:Option Addr) (g off c:Nat) (script:List OpR) (ha:0 < script.length→a=some ⟨g,off,none⟩) (hs:Zad w g off script) (hok:∀ o∈script,OpOk o) (hlen:script.length+6 < lots) (hgl:0 < script.length→g < w.heap.size)
 (hst:∀ (Q:Nat→Prop) (w0:World) (yb:Nat),Below w.heap.size w w0→(∀ b,Q b→w.heap.size≤b)→JA PD Q w0 yb (fun _=>True))
 (hPD:PDOk PD) :
 Calls Tryz.prog 7 #[.slice a script.length c] w fun e w'=>e=.returned (.bool true)∧Below w.heap.size w w':=by
 obtain⟨W0,hW0⟩:∃ W,W=(w.alloc (.cells #[.slice none 0 0,.nilIface,.int .i64 0,.int .i64 0] 34)).alloc (.cells (YS.flatMap OpR.cells).toArray 39):=⟨_,rfl⟩
 have hz0:W0.heap.size=w.heap.size+1+1:=by rw[hW0];simp
 have hbW:Below w.heap.size w W0:=by rw[hW0];exact((Below.refl _ w).alloc (Nat.le_refl _) _).alloc (by simp) _
 have hqy:W0.heap[w.heap.size]?=some (.cells #[.slice none 0 0,.nilIface,.int .i64 0,.int .i64 0] 34 (0,0)):=by rw[hW0,Below.heap_alloc _ _ _ (by simp),heap_alloc_new]
 have hqh:W0.heap[w.heap.size+1]?=some (.cells (YS.flatMap OpR.cells).toArray 39 (0,0)):=by
  have:=heap_alloc_new (w.alloc (.cells #[.slice none 0 0,.nilIface,.int .i64 0,.int .i64 0] 34)) (.cells (YS.flatMap OpR.cells).toArray 39)
  rw[hW0]
  simpa using this
 have inv0:InvE PD (fun b=>b=w.heap.size∨w.heap.size+1+1≤b) W0 W0 w.heap.size []:=by
  refine⟨fun b=>if b=w.heap.size then 1 else 0,.slice none 0 0,⟨_,0,0,rfl,hqy⟩,World.ownsRow_nil _ _ _ _,by simp,fun b e=>(by cases e),fun b e=>?_,fun b e=>.inr (by omega),Zb.refl _ _,fun i d h=>(by simp at h)⟩
  have:b=w.heap.size:=by
   rcases Classical.em (b=w.heap.size) with e1|e1
   · exact e1
   · simp[e1] at e
  exact⟨.inl this,by omega⟩
 have HEADAT:Hid (∀ W,Zb (fun b=>b=w.heap.size∨w.heap.size+1+1≤b) W0 W→Zad W (w.heap.size+1) 0 YS):=by
  intro W hk i o ho j u hu
  have hj:j<10:=by have:=(List.getElem?_eq_some_iff.1 hu).1;simpa using this
  refine hk.cell (p:=⟨w.heap.size+1,0+i*10+j,none⟩) ?_ (by simp only;omega)
  rw[Za hqh]
  have:=ZgW YS i o ho j hj
  rw[hu] at this
  simpa using this
 have SCRAT:Hid (∀ W,Zb (fun b=>b=w.heap.size∨w.heap.size+1+1≤b) W0 W→Zad W g off script):=by
  intro W hk i o ho j u hu
  have hgl:=hgl (by have:=(List.getElem?_eq_some_iff.1 ho).1;omega)
  refine hk.cell (p:=⟨g,off+i*10+j,none⟩) ?_ (by simp only;omega)
  exact(hbW.cell (p:=⟨g,off+i*10+j,none⟩) hgl).trans (hs i o ho j u hu)
 have HST:=hid (hst (fun b=>b=w.heap.size∨w.heap.size+1+1≤b) W0 w.heap.size hbW (fun b e=>by omega))
 have HPD:=hid hPD
 have HOK:=hid hok
 have INV0:=hid inv0
 have HBW:=hid hbW
 have HAA:=hid ha
 unfold lots at hlen
 clear ha hgl hst hPD hok inv0 hbW hqy hqh hs
 go_enter Tryz.func7,Tryz.ntmps7
 go_wp2_with (go_at_call 17;refine(head_any _).mono ?_;rintro e w' ⟨rfl,rfl⟩)
 rw[← hW0]
 clear hW0
 go_loopw [5] (fun t wr=>∃ (j:Nat) (docs:List DocR),j≤5+script.length∧t=.int .i64 j∧InvE PD (fun b=>b=w.heap.size∨w.heap.size+1+1≤b) W0 wr w.heap.size docs∧docs.length≤j) (fun t _=>leftV (5+script.length) t)
 case atStart=>exact⟨0,[],by omega,rfl,INV0.out,by simp⟩
 case round =>
  obtain⟨j,docs,hj,rfl,hinv,hdl⟩:=hrel
  by_cases hlt:j<5
  · obtain⟨o,ho⟩:∃ o,YS[j]?=some o:=⟨_,List.getElem?_eq_getElem (show j<YS.length from hlt)⟩
    have hoo:=ZfW o (List.mem_of_getElem? ho)
    have hat:=(by obtain⟨own,psv,hI⟩:=hinv;exact HEADAT.out wr hI.fr j o ho:∀ (q:Nat) (u:Value),o.cells[q]?=some u→wr.cell? ⟨w.heap.size+1,0+j*10+q,none⟩=some u)
    have e0:wr.cell? ⟨w.heap.size+1,j*10,none⟩=some (.int .i64 o.kind):=by simpa using hat 0 _ rfl
    have e1:wr.cell? ⟨w.heap.size+1,j*10+1,none⟩=some (.int .i64 o.D):=by simpa using hat 1 _ rfl
    have e2:wr.cell? ⟨w.heap.size+1,j*10+2,none⟩=some (.int .i64 o.A):=by simpa using hat 2 _ rfl
    have e3:wr.cell? ⟨w.heap.size+1,j*10+3,none⟩=some (.int .i64 o.B):=by simpa using hat 3 _ rfl
    have e4:wr.cell? ⟨w.heap.size+1,j*10+4,none⟩=some (.int .i64 o.C):=by simpa using hat 4 _ rfl
    have e5:wr.cell? ⟨w.heap.size+1,j*10+5,none⟩=some (.string o.S):=by simpa using hat 5 _ rfl
    have e6:wr.cell? ⟨w.heap.size+1,j*10+6,none⟩=some (.int .i64 o.p0):=by simpa using hat 6 _ rfl
    have e7:wr.cell? ⟨w.heap.size+1,j*10+7,none⟩=some (.int .i64 o.p1):=by simpa using hat 7 _ rfl
    have e8:wr.cell? ⟨w.heap.size+1,j*10+8,none⟩=some (.int .i64 o.q0):=by simpa using hat 8 _ rfl
    have e9:wr.cell? ⟨w.heap.size+1,j*10+9,none⟩=some (.int .i64 o.q1):=by simpa using hat 9 _ rfl
    have hyl:w.heap.size+1<wr.heap.size:=by obtain⟨own,psv,hI⟩:=hinv;have:=hI.fr.size;omega
    have CS:=hid (HST.out o hoo.1 trivial (wr.alloc (.cells o.cells.toArray 39)) docs (hinv.below HPD.out ((Below.refl _ wr).alloc (Nat.le_refl _) _)) (by unfold lots;omega))
    have hk1:o.kind=1↔j=0:=by
     simp only[YS] at ho
     rcases j with _|_|_|_|_|j
     all_goals first|omega|(simp at ho;subst ho;decide)
    have HINV:=hid hinv
    clear hat ho hoo hinv
    by_cases h0:j=0
    · have hk:=hk1.2 h0
      have hkb:(o.kind == 1)=true:=by rw[hk];rfl
      clear hk1 hk
      subst h0
      go_wp2_with (go_at_call 15;refine CS.out.mono ?_;clear CS;rintro e w3 ⟨rfl,docs',hI',hm',hl'⟩;have HI':=hid hI';clear hI')
      obtain⟨psv,av,yv,hq⟩:=HI'.out.asked
      have HQ:=hid hq
      clear hq
      go_loopw [8] (fun t wr2=>∃ p:Nat,1≤p∧p≤10∧t=.int .i64 (p:Int)∧Below w3.heap.size w3 wr2) (fun t _=>leftV 10 t)
      case atStart=>exact⟨1,by omega,by omega,rfl,Below.refl _ _⟩
      case round =>
       obtain⟨p,hp1,hp2,rfl,hb2⟩:=hrel
       by_cases hpl:p<10
       · have hpI:(p:Int)≤9:=by omega
         have hq2:=(hb2.block _ (Zc HQ.out)).trans HQ.out
         have q1:=Za hq2 1
         have q3:=Za hq2 3
         have CE:=hid (ZbO av yv (p:Int) (by omega) wr)
         have HQ2:=hid hq2
         have HB2:=hid hb2
         obtain⟨eb,heb⟩:∃ eb,(yv == (p:Int))=eb:=⟨_,rfl⟩
         rw[heb] at CE
         clear hq2 hb2
         go_wp2_with (
          go_at_call 22
          refine CE.out.mono ?_
          clear CE
          rintro e w5 ⟨rfl,hb5⟩
          have hq5:=(hb5.block _ (Zc HQ2.out)).trans HQ2.out
          have r3:=Za hq5 3
          have HB5:=hid (HB2.out.trans (hb5.mono HB2.out.size))
          clear hb5 hq5)
         refine⟨⟨p+1,by omega,by omega,by go_num,HB5.out⟩,?_⟩
         show 10 - ((p:Int)+1).toNat<10 - ((p:Int)).toNat
         omega
       · have hpI:¬ (p:Int)≤9:=by omega
         have HB2:=hid hb2
         clear hb2
         go_wp2
         refine⟨⟨0+1,docs',by omega,by go_num,HI'.out.below HPD.out HB2.out,by omega⟩,?_⟩
         show (5+script.length) - (((0:Nat):Int)+1).toNat<(5+script.length) - (((0:Nat):Int)).toNat
         omega
    · have hkb:(o.kind == 1)=false:=by simpa using fun e=>h0 (hk1.1 e)
      clear hk1
      go_wp2_with (go_at_call 15;refine CS.out.mono ?_;clear CS;rintro e w3 ⟨rfl,docs',hI',hm',hl'⟩;have HI':=hid hI';clear hI')
      obtain⟨psv,av,yv,hq⟩:=HI'.out.asked
      have HQ:=hid hq
      clear hq
      go_loopw [8] (fun t wr2=>∃ p:Nat,1≤p∧p≤10∧t=.int .i64 (p:Int)∧Below w3.heap.size w3 wr2) (fun t _=>leftV 10 t)
      case atStart=>exact⟨1,by omega,by omega,rfl,Below.refl _ _⟩
      case round =>
       obtain⟨p,hp1,hp2,rfl,hb2⟩:=hrel
       by_cases hpl:p<10
       · have hpI:(p:Int)≤9:=by omega
         have hq2:=(hb2.block _ (Zc HQ.out)).trans HQ.out
         have q1:=Za hq2 1
         have q3:=Za hq2 3
         have CE:=hid (ZbO av yv (p:Int) (by omega) wr)
         have HQ2:=hid hq2
         have HB2:=hid hb2
         obtain⟨eb,heb⟩:∃ eb,(yv == (p:Int))=eb:=⟨_,rfl⟩
         rw[heb] at CE
         clear hq2 hb2
         go_wp2_with (
          go_at_call 22
          refine CE.out.mono ?_
          clear CE
          rintro e w5 ⟨rfl,hb5⟩
          have hq5:=(hb5.block _ (Zc HQ2.out)).trans HQ2.out
          have r3:=Za hq5 3
          have HB5:=hid (HB2.out.trans (hb5.mono HB2.out.size))
          clear hb5 hq5)
         refine⟨⟨p+1,by omega,by omega,by go_num,HB5.out⟩,?_⟩
         show 10 - ((p:Int)+1).toNat<10 - ((p:Int)).toNat
         omega
       · have hpI:¬ (p:Int)≤9:=by omega
         have HB2:=hid hb2
         clear hb2
         go_wp2
         refine⟨⟨j+1,docs',by omega,by go_num,HI'.out.below HPD.out HB2.out,by omega⟩,?_⟩
         show (5+script.length) - ((j:Int)+1).toNat<(5+script.length) - ((j:Int)).toNat
         omega
  · by_cases hlt2:j<5+script.length
    · obtain⟨i,hie⟩:∃ i,j=5+i:=⟨j - 5,by omega⟩
      subst hie
      have haa:=HAA.out (by omega)
      subst haa
      obtain⟨o,ho⟩:∃ o,script[i]?=some o:=⟨_,List.getElem?_eq_getElem (by omega)⟩
      have hoo:=HOK.out o (List.mem_of_getElem? ho)
      have hfr:=(by obtain⟨own,psv,hI⟩:=hinv;exact hI.fr:Zb (fun b=>b=w.heap.size∨w.heap.size+1+1≤b) W0 wr)
      have hat:=SCRAT.out wr hfr i o ho
      have e0:wr.cell? ⟨g,off+i*10,none⟩=some (.int .i64 o.kind):=by simpa using hat 0 _ rfl
      have e1:wr.cell? ⟨g,off+i*10+1,none⟩=some (.int .i64 o.D):=by simpa using hat 1 _ rfl
      have e2:wr.cell? ⟨g,off+i*10+2,none⟩=some (.int .i64 o.A):=by simpa using hat 2 _ rfl
      have e3:wr.cell? ⟨g,off+i*10+3,none⟩=some (.int .i64 o.B):=by simpa using hat 3 _ rfl
      have e4:wr.cell? ⟨g,off+i*10+4,none⟩=some (.int .i64 o.C):=by simpa using hat 4 _ rfl
      have e5:wr.cell? ⟨g,off+i*10+5,none⟩=some (.string o.S):=by simpa using hat 5 _ rfl
      have e6:wr.cell? ⟨g,off+i*10+6,none⟩=some (.int .i64 o.p0):=by simpa using hat 6 _ rfl
      have e7:wr.cell? ⟨g,off+i*10+7,none⟩=some (.int .i64 o.p1):=by simpa using hat 7 _ rfl
      have e8:wr.cell? ⟨g,off+i*10+8,none⟩=some (.int .i64 o.q0):=by simpa using hat 8 _ rfl
      have e9:wr.cell? ⟨g,off+i*10+9,none⟩=some (.int .i64 o.q1):=by simpa using hat 9 _ rfl
      have hgl2:g<wr.heap.size:=World.block_lt_of_cell? wr _ e0
      have hsub:((5+i:Nat):Int) - 5=(i:Int):=by omega
      have CS:=hid (HST.out o hoo trivial (wr.alloc (.cells o.cells.toArray 39)) docs (hinv.below HPD.out ((Below.refl _ wr).alloc (Nat.le_refl _) _)) (by unfold lots;omega))
      have HINV:=hid hinv
      have h5a:¬ ((5+i:Nat):Int)<5:=by omega
      have h5b:((5+i:Nat):Int)<5+(script.length:Int):=by omega
      have hil:(i:Int)<(script.length:Int):=by omega
      clear hat ho hoo hinv hfr
      by_cases hk:o.kind=1
      · have hkb:(o.kind == 1)=true:=by rw[hk];rfl
        clear hk CS
        go_wp2
        refine⟨⟨5+i+1,docs,by omega,by go_num,HINV.out.below HPD.out ((Below.refl _ wr).alloc (Nat.le_refl _) _),by omega⟩,?_⟩
        show (5+script.length) - (5+(i:Int)+1).toNat<(5+script.length) - (5+(i:Int)).toNat
        omega
      · have hkb:(o.kind == 1)=false:=by simpa using hk
        clear hk
        go_wp2_with (go_at_call 15;refine CS.out.mono ?_;clear CS;rintro e w3 ⟨rfl,docs',hI',hm',hl'⟩;have HI':=hid hI';clear hI')
        obtain⟨psv,av,yv,hq⟩:=HI'.out.asked
        have HQ:=hid hq
        clear hq
        go_loopw [8] (fun t wr2=>∃ p:Nat,1≤p∧p≤10∧t=.int .i64 (p:Int)∧Below w3.heap.size w3 wr2) (fun t _=>leftV 10 t)
        case atStart=>exact⟨1,by omega,by omega,rfl,Below.refl _ _⟩
        case round =>
         obtain⟨p,hp1,hp2,rfl,hb2⟩:=hrel
         by_cases hpl:p<10
         · have hpI:(p:Int)≤9:=by omega
           have hq2:=(hb2.block _ (Zc HQ.out)).trans HQ.out
           have q1:=Za hq2 1
           have q3:=Za hq2 3
           have CE:=hid (ZbO av yv (p:Int) (by omega) wr)
           have HQ2:=hid hq2
           have HB2:=hid hb2
           obtain⟨eb,heb⟩:∃ eb,(yv == (p:Int))=eb:=⟨_,rfl⟩
           rw[heb] at CE
           clear hq2 hb2
           go_wp2_with (
            go_at_call 22
            refine CE.out.mono ?_
            clear CE
            rintro e w5 ⟨rfl,hb5⟩
            have hq5:=(hb5.block _ (Zc HQ2.out)).trans HQ2.out
            have r3:=Za hq5 3
            have HB5:=hid (HB2.out.trans (hb5.mono HB2.out.size))
            clear hb5 hq5)
           refine⟨⟨p+1,by omega,by omega,by go_num,HB5.out⟩,?_⟩
           show 10 - ((p:Int)+1).toNat<10 - ((p:Int)).toNat
           omega
         · have hpI:¬ (p:Int)≤9:=by omega
           have HB2:=hid hb2
           clear hb2
           go_wp2
           refine⟨⟨5+i+1,docs',by omega,by go_num,HI'.out.below HPD.out HB2.out,by omega⟩,?_⟩
           show (5+script.length) - (((5+i:Nat):Int)+1).toNat<(5+script.length) - (((5+i:Nat):Int)).toNat
           omega
    · have hle:¬ ((j:Nat):Int)<5+(script.length:Int):=by omega
      have HINV:=hid hinv
      clear hinv
      go_wp2
      go_ret
      refine⟨rfl,?_⟩
      obtain⟨own,psv,hI⟩:=HINV.out
      have hk:=hI.fr
      have hz:=HBW.out.size
      exact HBW.out.trans ⟨hk.os,hk.tape,hk.output,hk.size,fun k hk2=>hk.block k (by omega) (by omega)⟩
end
end Go.Proofs.YtabogkonklplcaaGreatDoor
