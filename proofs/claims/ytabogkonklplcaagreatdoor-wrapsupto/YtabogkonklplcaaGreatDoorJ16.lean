import Derived.Test.YtabogkonklplcaaGreatDoorJ07
import Derived.Test.YtabogkonklplcaaGreatDoorJ09
import Derived.Deep.RegionLaw
import Derived.Deep.RegionHeld3
import Derived.Deep.Cut
import Derived.Deep.CutRange
import Derived.Deep.AppendLies
namespace Go.Proofs.YtabogkonklplcaaGreatDoor
set_option linter.unusedSimpArgs false
set_option linter.unusedVariables false
set_option maxRecDepth 20000
set_option maxHeartbeats 8000000
section
open Go.RowKit
structure St where
 n:List Nd
 r:List Sp
structure PDT where
 lies:World→(Nat→Prop)→Nat→St→Prop
 ok:St→Prop
instance:CoeFun PDT (fun _=>World→(Nat→Prop)→Nat→St→Prop):=⟨PDT.lies⟩
abbrev XG (w:World) (F:Nat→Prop) (bd:Nat) (s:St):Prop:=RDoc w F bd s.n s.r
structure PDOk (PD:PDT):Prop where
 keeps:∀ {w w':World} {F G:Nat→Prop} {b:Nat} {s:St},PD w F b s→Zb G w w'→(∀ b,F b→¬ G b)→PD w' F b s
 wider:∀ {w:World} {F G:Nat→Prop} {b:Nat} {s:St},PD w F b s→(∀ b,F b→G b)→PD w G b s
 narrow:∀ {w:World} {F:Nat→Prop} {b:Nat} {s:St},PD w F b s→PD w (fun k=>F k∧k<w.heap.size) b s
 root:PD.ok ⟨[Z5],[]⟩
def grow (F:Nat→Prop) (w:World):Nat→Prop:=fun b=>F b∨w.heap.size≤b
abbrev ptr (b:Nat):Value:=.pointer (some ⟨b,0,none⟩)
abbrev fltV (a y:Int):Value:=.agg #[.int .i64 a,.int .i64 y]
def PPost (PD:PDT) (F:Nat→Prop) (w:World) (bx:Nat) (s':St) (v:Value) (e:Ending) (w':World):Prop:=e=.returned v∧Zb F w w'∧PD w' (grow F w) bx s'
def RPost (F:Nat→Prop) (w:World) (bd:Nat) (s':St) (v:Value) (e:Ending) (w':World):Prop:=e=.returned v∧Zb F w w'∧XG w' (grow F w) bd s'
def Ans (PD:PDT) (G:World→Prop) (s:St) (pf rf:FuncId) (args:List Value) (pres:Value→Value) (rres:Value→Value):Prop :=
 ∃ (a y:Int) (s':St),PD.ok s' ∧
  (∀ (w:World) (F:Nat→Prop) (bx:Nat),G w→PD w F bx s→Calls Tryz.prog pf (ptr bx::args).toArray w (PPost PD F w bx s' (pres (errV a y)))) ∧
  (∀ (w:World) (F:Nat→Prop) (bd:Nat),XG w F bd s→Calls Tryz.prog rf (ptr bd::args).toArray w (RPost F w bd s' (rres (fltV a y))))
def Xj (w:World) (yb:Nat) (psv:Value):Prop:=∃ (l0:Value) (a0 y0:Int),l0=errV a0 y0∧w.heap[yb]?=some (.cells #[psv,l0,.int .i64 a0,.int .i64 y0] 34 (0,0))
def Z8 (PD:PDT) (FP FR:Nat→Prop) (w:World) (yb bx bd:Nat) (psv:Value) (e:Ending) (w':World):Prop :=
 e=.returned (.bool true)∧∃ (m:Nat) (s':St),w.heap.size≤m∧m≤w'.heap.size∧PD.ok s'∧Zb (fun b=>FP b∨FR b∨b=yb) w w'∧Xj w' yb psv ∧
  PD w' (fun b=>FP b∨(w.heap.size≤b∧b<m)) bx s'∧XG w' (fun b=>FR b∨(m≤b∧b<w'.heap.size)) bd s'
structure ZU (PD:PDT) (FP FR:Nat→Prop) (w:World) (yb bx bd:Nat) (psv:Value) (s:St):Prop where
 play:Xj w yb psv
 pd:PD w FP bx s
 rd:XG w FR bd s
 apart:∀ b,FP b→¬ FR b
 fy:¬ FP yb
 ry:¬ FR yb
 fl:∀ b,FP b→b<w.heap.size
 rl:∀ b,FR b→b<w.heap.size
abbrev opV (kind D A B C:Int) (S:ByteArray) (p0 p1 q0 q1:Int):Value:=.agg #[.int .i64 kind,.int .i64 D,.int .i64 A,.int .i64 B,.int .i64 C,.string S,.int .i64 p0,.int .i64 p1,.int .i64 q0,.int .i64 q1]
section
variable {PD:PDT} {G:World→Prop} {FP FR:Nat→Prop} {w:World} {yb bx bd:Nat} {psv:Value} {s:St}
theorem Xj.keeps {w w':World} {F:Nat→Prop} (h:Xj w yb psv) (hk:Zb F w w') (hF:¬ F yb):Xj w' yb psv:=by
 obtain⟨l0,a0,y0,he,h⟩:=h
 exact⟨l0,a0,y0,he,(hk.block yb (Zc h) hF).trans h⟩
theorem RDoc.narrow {w:World} {F:Nat→Prop} {bd:Nat} {s:List Nd} {rs:List Sp} (h:RDoc w F bd s rs):RDoc w (fun b=>F b∧b < w.heap.size) bd s rs:=by
 obtain⟨bn,cap,rn,rv,h⟩:=h
 exact⟨bn,cap,rn,rv,h.narrow⟩
theorem RDoc.wider {w:World} {F G:Nat→Prop} {bd:Nat} {s:List Nd} {rs:List Sp} (h:RDoc w F bd s rs) (hG:∀ b,F b→G b):RDoc w G bd s rs:=by
 obtain⟨bn,cap,rn,rv,h⟩:=h
 exact⟨bn,cap,rn,rv,h.wider hG⟩
theorem ZU.ref {W0 w1:World} (hA:ZU PD FP FR w yb bx bd psv s) (hb0:Below w.heap.size w W0) (k1:Zb FP W0 w1):XG w1 FR bd s :=
 (hA.rd.keeps (Zb.of_below (F:=fun _=>False) hb0) (fun _ _ e=>e)).keeps k1 (fun b hr hp=>hA.apart b hp hr)
theorem ZU.old {W0 w1:World} (hA:ZU PD FP FR w yb bx bd psv s) (k1:Zb FP W0 w1) {b:Nat} {o:Obj} (hb:w.heap.size≤b) (h:W0.heap[b]?=some o):w1.heap[b]?=some o :=
 (k1.block b (Zc h) (fun e=>by have:=hA.fl b e;omega)).trans h
theorem ZU.old2 {w1 w2:World} (hA:ZU PD FP FR w yb bx bd psv s) (k2:Zb FR w1 w2) {b:Nat} {o:Obj} (hb:w.heap.size≤b) (h:w1.heap[b]?=some o):w2.heap[b]?=some o :=
 (k2.block b (Zc h) (fun e=>by have:=hA.rl b e;omega)).trans h
theorem ZU.play2 {W0 w1 w2:World} (hA:ZU PD FP FR w yb bx bd psv s) (hb0:Below w.heap.size w W0) (k1:Zb FP W0 w1) (k2:Zb FR w1 w2):Xj w2 yb psv :=
 ((hA.play.keeps (Zb.of_below (F:=fun _=>False) hb0) (fun e=>e)).keeps k1 hA.fy).keeps k2 hA.ry
theorem Yy (hPD:PDOk PD) (hA:ZU PD FP FR w yb bx bd psv s) {W0 w1 w2 w4:World} {s':St} (hwf:PD.ok s') (hb0:Below w.heap.size w W0) (k1:Zb FP W0 w1) (d1:PD w1 (grow FP W0) bx s')
 (k2:Zb FR w1 w2) (r2:XG w2 (grow FR w1) bd s') (k4:Zb (fun b=>b=yb) w2 w4) (hp:Xj w4 yb psv) :
 Z8 PD FP FR w yb bx bd psv (.returned (.bool true)) w4:=by
 have z0:=hb0.size
 have z1:=k1.size
 have z2:=k2.size
 have z4:=k4.size
 have hyb:yb<w.heap.size:=by obtain⟨_,_,_,_,h⟩:=hA.play;exact Zc h
 refine⟨rfl,w1.heap.size,s',by omega,by omega,hwf,?_,hp,?_,?_⟩
 · have e1:Zb (fun b=>FP b∨FR b∨b=yb) w w1:=(Zb.of_below hb0).trans (k1.mono (fun k _ e=>.inl (.inl e)))
   have e2:Zb (fun b=>FP b∨FR b∨b=yb) w w2:=e1.trans (k2.mono (fun k _ e=>.inl (.inr (.inl e))))
   exact e2.trans (k4.mono (fun k _ e=>.inl (.inr (.inr e))))
 · have e1:=hPD.narrow d1
   have e2:=hPD.keeps e1 k2 (fun b hb hr=>by
    rcases hb.1 with h|h
    · exact hA.apart b h hr
    · have:=hA.rl b hr;omega)
   have e4:=hPD.keeps e2 k4 (fun b hb hy=>by
    rcases hb.1 with h|h
    · exact hA.fy (hy ▸ h)
    · omega)
   refine hPD.wider e4 (fun b hb=>?_)
   rcases hb.1 with h|h
   · exact .inl h
   · exact .inr ⟨by omega,hb.2⟩
 · have e1:=r2.narrow
   have e4:=e1.keeps k4 (fun b hb hy=>by
    rcases hb.1 with h|h
    · exact hA.ry (hy ▸ h)
    · omega)
   refine e4.wider (fun b hb=>?_)
   rcases hb.1 with h|h
   · exact .inl h
   · exact .inr ⟨h,by omega⟩
abbrev Z9 (w:World) (bx bd:Nat) (kind D A B C:Int) (S:ByteArray) (p0 p1 q0 q1:Int):World :=
 (w.alloc (.cells #[ptr bx,ptr bd] 44)).alloc (.cells #[.int .i64 kind,.int .i64 D,.int .i64 A,.int .i64 B,.int .i64 C,.string S,.int .i64 p0,.int .i64 p1,.int .i64 q0,.int .i64 q1] 39)
theorem Ys (w:World) (bx bd:Nat) (kind D A B C:Int) (S:ByteArray) (p0 p1 q0 q1:Int):Below w.heap.size w (Z9 w bx bd kind D A B C S p0 p1 q0 q1) :=
 ((Below.refl _ w).alloc (Nat.le_refl _) _).alloc (by simp) _
theorem Yu (w:World) (bx bd:Nat) (kind D A B C:Int) (S:ByteArray) (p0 p1 q0 q1:Int):(Z9 w bx bd kind D A B C S p0 p1 q0 q1).heap[w.heap.size]?=some (.cells #[ptr bx,ptr bd] 44 (0,0)):=by
 rw[Below.heap_alloc _ _ _ (by simp),heap_alloc_new]
theorem Yt (w:World) (bx bd:Nat) (kind D A B C:Int) (S:ByteArray) (p0 p1 q0 q1:Int):(Z9 w bx bd kind D A B C S p0 p1 q0 q1).heap[w.heap.size+1]?=some (.cells #[.int .i64 kind,.int .i64 D,.int .i64 A,.int .i64 B,.int .i64 C,.string S,.int .i64 p0,.int .i64 p1,.int .i64 q0,.int .i64 q1] 39 (0,0)):=by
 have:=heap_alloc_new (w.alloc (.cells #[ptr bx,ptr bd] 44)) (.cells #[.int .i64 kind,.int .i64 D,.int .i64 A,.int .i64 B,.int .i64 C,.string S,.int .i64 p0,.int .i64 p1,.int .i64 q0,.int .i64 q1] 39)
 simpa using this
theorem ZgI (hPD:PDOk PD) (hGB:∀ w w',G w→Below w.heap.size w w'→G w') (hA:ZU PD FP FR w yb bx bd psv s) (hg:G w)
 (D A B C:Int) (S:ByteArray) (p0 p1 q0 q1:Int) (h:∃ n:Int,Ans PD G s 52 73 [] (fun v=>.tuple #[.int .i64 n,v]) (fun v=>.tuple #[.int .i64 n,v])) :
 Calls Tryz.prog 42 #[ptr yb,.agg #[ptr bx,ptr bd],opV 2 D A B C S p0 p1 q0 q1] w (Z8 PD FP FR w yb bx bd psv):=by
 obtain⟨n,a,y,s',hwf,hp,hr⟩:=h
 have hB:=Ys w bx bd 2 D A B C S p0 p1 q0 q1
 have hbp:=Yu w bx bd 2 D A B C S p0 p1 q0 q1
 have hbo:=Yt w bx bd 2 D A B C S p0 p1 q0 q1
 have CP:=hid (hp (Z9 w bx bd 2 D A B C S p0 p1 q0 q1) FP bx (hGB _ _ hg hB) (hPD.keeps hA.pd (Zb.of_below (F:=fun _=>False) hB) (fun _ _ e=>e)))
 have HB:=hid hB
 have HBP:=hid hbp
 have HBO:=hid hbo
 have HR:=hid hr
 have HA:=hid hA
 have HPD:=hid hPD
 have HWF:=hid hwf
 clear hp hr hB hbp hbo hA hPD hwf hg hGB
 go_enter Tryz.func42,Tryz.ntmps42
 go_wp2_with (first
  | (go_at_call 52
     refine CP.out.mono ?_
     clear CP
     rintro e w1 ⟨rfl,k1,d1⟩
     have hp1:=HA.out.old k1 (Nat.le_refl _) HBP.out
     have ho1:=HA.out.old k1 (Nat.le_succ _) HBO.out
     have c10:w1.cell? ⟨w.heap.size,0,none⟩=some (ptr bx):=Za hp1 0
     have c11:w1.cell? ⟨w.heap.size,1,none⟩=some (ptr bd):=Za hp1 1
     have c22:w1.cell? ⟨w.heap.size+1,2,none⟩=some (.int .i64 A):=Za ho1 2
     have c23:w1.cell? ⟨w.heap.size+1,3,none⟩=some (.int .i64 B):=Za ho1 3
     have c24:w1.cell? ⟨w.heap.size+1,4,none⟩=some (.int .i64 C):=Za ho1 4
     have c25:w1.cell? ⟨w.heap.size+1,5,none⟩=some (.string S):=Za ho1 5
     have CR:=hid (HR.out w1 FR bd (HA.out.ref HB.out k1))
     have K1:=hid k1
     have D1:=hid d1
     clear k1 d1 hp1 ho1)
  | (go_at_call 73
     refine CR.out.mono ?_
     clear CR
     rintro e w2 ⟨rfl,k2,r2⟩
     have PL:=hid (HA.out.play2 HB.out K1.out k2)
     have K2:=hid k2
     have R2:=hid r2
     clear k2 r2)
  | (go_at_call 20
     obtain⟨l0,a0,y0,-,hq⟩:=PL.out
     refine(Yx yb psv l0 a0 y0 a y (w2.alloc (.cells #[.int .i64 a,.int .i64 y] 32)) ((Below.heap_alloc _ _ _ (Zc hq)).trans hq)).mono ?_
     rintro e w4 ⟨rfl,k4,hq4⟩
     have K4:=hid k4
     have Q4:=hid hq4
     clear k4 hq4 hq))
 go_ret
 exact Yy HPD.out HA.out HWF.out HB.out K1.out D1.out K2.out R2.out ((((Zb.refl (fun b=>b=yb) w2).alloc _)).trans (K4.out.mono (fun k _ e=>.inl e))) ⟨_,_,_,rfl,Q4.out⟩
theorem ZgM (hPD:PDOk PD) (hGB:∀ w w',G w→Below w.heap.size w w'→G w') (hA:ZU PD FP FR w yb bx bd psv s) (hg:G w)
 (D A B C:Int) (S:ByteArray) (p0 p1 q0 q1:Int) (h:∃ n:Int,Ans PD G s 53 74 [.string S] (fun v=>.tuple #[.int .i64 n,v]) (fun v=>.tuple #[.int .i64 n,v])) :
 Calls Tryz.prog 42 #[ptr yb,.agg #[ptr bx,ptr bd],opV 3 D A B C S p0 p1 q0 q1] w (Z8 PD FP FR w yb bx bd psv):=by
 obtain⟨n,a,y,s',hwf,hp,hr⟩:=h
 have hB:=Ys w bx bd 3 D A B C S p0 p1 q0 q1
 have hbp:=Yu w bx bd 3 D A B C S p0 p1 q0 q1
 have hbo:=Yt w bx bd 3 D A B C S p0 p1 q0 q1
 have CP:=hid (hp (Z9 w bx bd 3 D A B C S p0 p1 q0 q1) FP bx (hGB _ _ hg hB) (hPD.keeps hA.pd (Zb.of_below (F:=fun _=>False) hB) (fun _ _ e=>e)))
 have HB:=hid hB
 have HBP:=hid hbp
 have HBO:=hid hbo
 have HR:=hid hr
 have HA:=hid hA
 have HPD:=hid hPD
 have HWF:=hid hwf
 clear hp hr hB hbp hbo hA hPD hwf hg hGB
 go_enter Tryz.func42,Tryz.ntmps42
 go_wp2_with (first
  | (go_at_call 53
     refine CP.out.mono ?_
     clear CP
     rintro e w1 ⟨rfl,k1,d1⟩
     have hp1:=HA.out.old k1 (Nat.le_refl _) HBP.out
     have ho1:=HA.out.old k1 (Nat.le_succ _) HBO.out
     have c10:w1.cell? ⟨w.heap.size,0,none⟩=some (ptr bx):=Za hp1 0
     have c11:w1.cell? ⟨w.heap.size,1,none⟩=some (ptr bd):=Za hp1 1
     have c22:w1.cell? ⟨w.heap.size+1,2,none⟩=some (.int .i64 A):=Za ho1 2
     have c23:w1.cell? ⟨w.heap.size+1,3,none⟩=some (.int .i64 B):=Za ho1 3
     have c24:w1.cell? ⟨w.heap.size+1,4,none⟩=some (.int .i64 C):=Za ho1 4
     have c25:w1.cell? ⟨w.heap.size+1,5,none⟩=some (.string S):=Za ho1 5
     have CR:=hid (HR.out w1 FR bd (HA.out.ref HB.out k1))
     have K1:=hid k1
     have D1:=hid d1
     clear k1 d1 hp1 ho1)
  | (go_at_call 74
     refine CR.out.mono ?_
     clear CR
     rintro e w2 ⟨rfl,k2,r2⟩
     have PL:=hid (HA.out.play2 HB.out K1.out k2)
     have K2:=hid k2
     have R2:=hid r2
     clear k2 r2)
  | (go_at_call 20
     obtain⟨l0,a0,y0,-,hq⟩:=PL.out
     refine(Yx yb psv l0 a0 y0 a y (w2.alloc (.cells #[.int .i64 a,.int .i64 y] 32)) ((Below.heap_alloc _ _ _ (Zc hq)).trans hq)).mono ?_
     rintro e w4 ⟨rfl,k4,hq4⟩
     have K4:=hid k4
     have Q4:=hid hq4
     clear k4 hq4 hq))
 go_ret
 exact Yy HPD.out HA.out HWF.out HB.out K1.out D1.out K2.out R2.out ((((Zb.refl (fun b=>b=yb) w2).alloc _)).trans (K4.out.mono (fun k _ e=>.inl e))) ⟨_,_,_,rfl,Q4.out⟩
theorem ZgJ (hPD:PDOk PD) (hGB:∀ w w',G w→Below w.heap.size w w'→G w') (hA:ZU PD FP FR w yb bx bd psv s) (hg:G w)
 (D A B C:Int) (S:ByteArray) (p0 p1 q0 q1:Int) (h:Ans PD G s 54 75 [.int .i64 A,.int .i64 B,.int .i64 C] (fun v=>v) (fun v=>v)) :
 Calls Tryz.prog 42 #[ptr yb,.agg #[ptr bx,ptr bd],opV 4 D A B C S p0 p1 q0 q1] w (Z8 PD FP FR w yb bx bd psv):=by
 obtain⟨a,y,s',hwf,hp,hr⟩:=h
 have hB:=Ys w bx bd 4 D A B C S p0 p1 q0 q1
 have hbp:=Yu w bx bd 4 D A B C S p0 p1 q0 q1
 have hbo:=Yt w bx bd 4 D A B C S p0 p1 q0 q1
 have CP:=hid (hp (Z9 w bx bd 4 D A B C S p0 p1 q0 q1) FP bx (hGB _ _ hg hB) (hPD.keeps hA.pd (Zb.of_below (F:=fun _=>False) hB) (fun _ _ e=>e)))
 have HB:=hid hB
 have HBP:=hid hbp
 have HBO:=hid hbo
 have HR:=hid hr
 have HA:=hid hA
 have HPD:=hid hPD
 have HWF:=hid hwf
 clear hp hr hB hbp hbo hA hPD hwf hg hGB
 go_enter Tryz.func42,Tryz.ntmps42
 go_wp2_with (first
  | (go_at_call 54
     refine CP.out.mono ?_
     clear CP
     rintro e w1 ⟨rfl,k1,d1⟩
     have hp1:=HA.out.old k1 (Nat.le_refl _) HBP.out
     have ho1:=HA.out.old k1 (Nat.le_succ _) HBO.out
     have c10:w1.cell? ⟨w.heap.size,0,none⟩=some (ptr bx):=Za hp1 0
     have c11:w1.cell? ⟨w.heap.size,1,none⟩=some (ptr bd):=Za hp1 1
     have c22:w1.cell? ⟨w.heap.size+1,2,none⟩=some (.int .i64 A):=Za ho1 2
     have c23:w1.cell? ⟨w.heap.size+1,3,none⟩=some (.int .i64 B):=Za ho1 3
     have c24:w1.cell? ⟨w.heap.size+1,4,none⟩=some (.int .i64 C):=Za ho1 4
     have c25:w1.cell? ⟨w.heap.size+1,5,none⟩=some (.string S):=Za ho1 5
     have CR:=hid (HR.out w1 FR bd (HA.out.ref HB.out k1))
     have K1:=hid k1
     have D1:=hid d1
     clear k1 d1 hp1 ho1)
  | (go_at_call 75
     refine CR.out.mono ?_
     clear CR
     rintro e w2 ⟨rfl,k2,r2⟩
     have PL:=hid (HA.out.play2 HB.out K1.out k2)
     have K2:=hid k2
     have R2:=hid r2
     clear k2 r2)
  | (go_at_call 20
     obtain⟨l0,a0,y0,-,hq⟩:=PL.out
     refine(Yx yb psv l0 a0 y0 a y w2 hq).mono ?_
     rintro e w4 ⟨rfl,k4,hq4⟩
     have K4:=hid k4
     have Q4:=hid hq4
     clear k4 hq4 hq))
 go_ret
 exact Yy HPD.out HA.out HWF.out HB.out K1.out D1.out K2.out R2.out K4.out ⟨_,_,_,rfl,Q4.out⟩
theorem ZgK (hPD:PDOk PD) (hGB:∀ w w',G w→Below w.heap.size w w'→G w') (hA:ZU PD FP FR w yb bx bd psv s) (hg:G w)
 (D A B C:Int) (S:ByteArray) (p0 p1 q0 q1:Int) (h:Ans PD G s 60 76 [.int .i64 A] (fun v=>v) (fun v=>v)) :
 Calls Tryz.prog 42 #[ptr yb,.agg #[ptr bx,ptr bd],opV 5 D A B C S p0 p1 q0 q1] w (Z8 PD FP FR w yb bx bd psv):=by
 obtain⟨a,y,s',hwf,hp,hr⟩:=h
 have hB:=Ys w bx bd 5 D A B C S p0 p1 q0 q1
 have hbp:=Yu w bx bd 5 D A B C S p0 p1 q0 q1
 have hbo:=Yt w bx bd 5 D A B C S p0 p1 q0 q1
 have CP:=hid (hp (Z9 w bx bd 5 D A B C S p0 p1 q0 q1) FP bx (hGB _ _ hg hB) (hPD.keeps hA.pd (Zb.of_below (F:=fun _=>False) hB) (fun _ _ e=>e)))
 have HB:=hid hB
 have HBP:=hid hbp
 have HBO:=hid hbo
 have HR:=hid hr
 have HA:=hid hA
 have HPD:=hid hPD
 have HWF:=hid hwf
 clear hp hr hB hbp hbo hA hPD hwf hg hGB
 go_enter Tryz.func42,Tryz.ntmps42
 go_wp2_with (first
  | (go_at_call 60
     refine CP.out.mono ?_
     clear CP
     rintro e w1 ⟨rfl,k1,d1⟩
     have hp1:=HA.out.old k1 (Nat.le_refl _) HBP.out
     have ho1:=HA.out.old k1 (Nat.le_succ _) HBO.out
     have c10:w1.cell? ⟨w.heap.size,0,none⟩=some (ptr bx):=Za hp1 0
     have c11:w1.cell? ⟨w.heap.size,1,none⟩=some (ptr bd):=Za hp1 1
     have c22:w1.cell? ⟨w.heap.size+1,2,none⟩=some (.int .i64 A):=Za ho1 2
     have c23:w1.cell? ⟨w.heap.size+1,3,none⟩=some (.int .i64 B):=Za ho1 3
     have c24:w1.cell? ⟨w.heap.size+1,4,none⟩=some (.int .i64 C):=Za ho1 4
     have c25:w1.cell? ⟨w.heap.size+1,5,none⟩=some (.string S):=Za ho1 5
     have CR:=hid (HR.out w1 FR bd (HA.out.ref HB.out k1))
     have K1:=hid k1
     have D1:=hid d1
     clear k1 d1 hp1 ho1)
  | (go_at_call 76
     refine CR.out.mono ?_
     clear CR
     rintro e w2 ⟨rfl,k2,r2⟩
     have PL:=hid (HA.out.play2 HB.out K1.out k2)
     have K2:=hid k2
     have R2:=hid r2
     clear k2 r2)
  | (go_at_call 20
     obtain⟨l0,a0,y0,-,hq⟩:=PL.out
     refine(Yx yb psv l0 a0 y0 a y w2 hq).mono ?_
     rintro e w4 ⟨rfl,k4,hq4⟩
     have K4:=hid k4
     have Q4:=hid hq4
     clear k4 hq4 hq))
 go_ret
 exact Yy HPD.out HA.out HWF.out HB.out K1.out D1.out K2.out R2.out K4.out ⟨_,_,_,rfl,Q4.out⟩
theorem ZgL (hPD:PDOk PD) (hGB:∀ w w',G w→Below w.heap.size w w'→G w') (hA:ZU PD FP FR w yb bx bd psv s) (hg:G w)
 (D A B C:Int) (S:ByteArray) (p0 p1 q0 q1:Int) (h:∃ b:ByteArray,Ans PD G s 55 77 [.int .i64 A] (fun v=>.tuple #[.string b,v]) (fun v=>.tuple #[.string b,v])) :
 Calls Tryz.prog 42 #[ptr yb,.agg #[ptr bx,ptr bd],opV 6 D A B C S p0 p1 q0 q1] w (Z8 PD FP FR w yb bx bd psv):=by
 obtain⟨b,a,y,s',hwf,hp,hr⟩:=h
 have hB:=Ys w bx bd 6 D A B C S p0 p1 q0 q1
 have hbp:=Yu w bx bd 6 D A B C S p0 p1 q0 q1
 have hbo:=Yt w bx bd 6 D A B C S p0 p1 q0 q1
 have CP:=hid (hp (Z9 w bx bd 6 D A B C S p0 p1 q0 q1) FP bx (hGB _ _ hg hB) (hPD.keeps hA.pd (Zb.of_below (F:=fun _=>False) hB) (fun _ _ e=>e)))
 have HB:=hid hB
 have HBP:=hid hbp
 have HBO:=hid hbo
 have HR:=hid hr
 have HA:=hid hA
 have HPD:=hid hPD
 have HWF:=hid hwf
 clear hp hr hB hbp hbo hA hPD hwf hg hGB
 have hbb:(b.toList == b.toList)=true:=by simp
 go_enter Tryz.func42,Tryz.ntmps42
 go_wp2_with (first
  | (go_at_call 55
     refine CP.out.mono ?_
     clear CP
     rintro e w1 ⟨rfl,k1,d1⟩
     have hp1:=HA.out.old k1 (Nat.le_refl _) HBP.out
     have ho1:=HA.out.old k1 (Nat.le_succ _) HBO.out
     have c10:w1.cell? ⟨w.heap.size,0,none⟩=some (ptr bx):=Za hp1 0
     have c11:w1.cell? ⟨w.heap.size,1,none⟩=some (ptr bd):=Za hp1 1
     have c22:w1.cell? ⟨w.heap.size+1,2,none⟩=some (.int .i64 A):=Za ho1 2
     have c23:w1.cell? ⟨w.heap.size+1,3,none⟩=some (.int .i64 B):=Za ho1 3
     have c24:w1.cell? ⟨w.heap.size+1,4,none⟩=some (.int .i64 C):=Za ho1 4
     have c25:w1.cell? ⟨w.heap.size+1,5,none⟩=some (.string S):=Za ho1 5
     have CR:=hid (HR.out w1 FR bd (HA.out.ref HB.out k1))
     have K1:=hid k1
     have D1:=hid d1
     clear k1 d1 hp1 ho1)
  | (go_at_call 77
     refine CR.out.mono ?_
     clear CR
     rintro e w2 ⟨rfl,k2,r2⟩
     have PL:=hid (HA.out.play2 HB.out K1.out k2)
     have K2:=hid k2
     have R2:=hid r2
     clear k2 r2)
  | (go_at_call 20
     obtain⟨l0,a0,y0,-,hq⟩:=PL.out
     refine(Yx yb psv l0 a0 y0 a y (w2.alloc (.cells #[.int .i64 a,.int .i64 y] 32)) ((Below.heap_alloc _ _ _ (Zc hq)).trans hq)).mono ?_
     rintro e w4 ⟨rfl,k4,hq4⟩
     have K4:=hid k4
     have Q4:=hid hq4
     clear k4 hq4 hq))
 go_ret
 exact Yy HPD.out HA.out HWF.out HB.out K1.out D1.out K2.out R2.out ((((Zb.refl (fun b=>b=yb) w2).alloc _)).trans (K4.out.mono (fun k _ e=>.inl e))) ⟨_,_,_,rfl,Q4.out⟩
end
end
section
open Go.RowKit
structure DocR where
 bx:Nat
 bd:Nat
 s:St
structure Inv (PD:PDT) (Q:Nat→Prop) (w0 w:World) (yb:Nat) (docs:List DocR) (own:Nat→Nat) (psv:Value):Prop where
 play:Xj w yb psv
 row:w.ownsRow 0 44 2 psv docs.length (docs.flatMap fun d=>[ptr d.bx,ptr d.bd])
 oy:own yb=1
 ops:∀ b,psv.ownBlock=some b→own b=1∧b≠yb
 ol:∀ b,own b≠0→Q b∧b<w.heap.size
 bl:∀ b,w.heap.size≤b→Q b
 fr:Zb Q w0 w
 doc:∀ (i:Nat) (d:DocR),docs[i]?=some d→PD w (fun b=>own b=2*i+2) d.bx d.s∧XG w (fun b=>own b=2*i+3) d.bd d.s∧PD.ok d.s
def InvE (PD:PDT) (Q:Nat→Prop) (w0 w:World) (yb:Nat) (docs:List DocR):Prop:=∃ own psv,Inv PD Q w0 w yb docs own psv
def YJ (PD:PDT) (Q:Nat→Prop) (w0:World) (yb:Nat) (m n:Nat) (e:Ending) (w':World):Prop:=e=.returned (.bool true)∧∃ docs,InvE PD Q w0 w' yb docs∧m≤docs.length∧docs.length≤n
theorem ZbU (docs:List DocR) (i:Nat) (d:DocR) (h:docs[i]?=some d):(docs.flatMap fun d=>[ptr d.bx,ptr d.bd])[i * 2]?=some (ptr d.bx)∧(docs.flatMap fun d=>[ptr d.bx,ptr d.bd])[i * 2+1]?=some (ptr d.bd):=by
 induction docs generalizing i with
 | nil=>simp at h
 | cons a l ih =>
   cases i with
   | zero=>simp at h;subst h;simp
   | succ i =>
     have:=ih i (by simpa using h)
     have e1:(i+1)*2=i*2+1+1:=by omega
     have e2:(i+1)*2+1=i*2+1+1+1:=by omega
     rw[e2,e1]
     simpa using this
theorem ZgX (docs:List DocR) (i:Nat) (d d':DocR) (h:docs[i]?=some d) (hx:d'.bx=d.bx) (hd:d'.bd=d.bd):((docs.set i d').flatMap fun d=>[ptr d.bx,ptr d.bd])=(docs.flatMap fun d=>[ptr d.bx,ptr d.bd]):=by
 induction docs generalizing i with
 | nil=>simp at h
 | cons a l ih =>
   cases i with
   | zero=>simp at h;subst h;simp[hx,hd]
   | succ i=>simp[ih i (by simpa using h)]
section
variable {PD:PDT} {Q:Nat→Prop} {w0 w:World} {yb:Nat} {docs:List DocR} {own:Nat→Nat} {psv:Value}
theorem InvE.below {w':World} (hPD:PDOk PD) (h:InvE PD Q w0 w yb docs) (hb:Below w.heap.size w w'):InvE PD Q w0 w' yb docs:=by
 obtain⟨own,psv,h⟩:=h
 have hk:=Zb.of_below (F:=fun _=>False) hb
 have hz:=hb.size
 have hbl:=h.bl
 refine⟨own,psv,h.play.keeps hk (fun e=>e),hk.row h.row (fun _ _ e=>e),h.oy,h.ops,fun b e=>⟨(h.ol b e).1,by have:=(h.ol b e).2;omega⟩,fun b e=>hbl b (by omega),h.fr.trans (Zb.of_below hb),fun i d hd=>?_⟩
 obtain⟨h1,h2,h3⟩:=h.doc i d hd
 exact⟨hPD.keeps h1 hk (fun _ _ e=>e),h2.keeps hk (fun _ _ e=>e),h3⟩
theorem Inv.pair (h:Inv PD Q w0 w yb docs own psv) {i:Nat} {d:DocR} (hd:docs[i]?=some d):ZU PD (fun b=>own b=2 * i+2) (fun b=>own b=2 * i+3) w yb d.bx d.bd psv d.s:=by
 obtain⟨h1,h2,h3⟩:=h.doc i d hd
 have hy:=h.oy
 exact⟨h.play,h1,h2,fun b e1 e2=>by omega,by omega,by omega,fun b e=>(h.ol b (by omega)).2,fun b e=>(h.ol b (by omega)).2⟩
theorem Inv.stepped (hPD:PDOk PD) (h:Inv PD Q w0 w yb docs own psv) {i:Nat} {d:DocR} (hd:docs[i]?=some d) {e:Ending} {w':World} (hp:Z8 PD (fun b=>own b=2 * i+2) (fun b=>own b=2 * i+3) w yb d.bx d.bd psv e w') :
 YJ PD Q w0 yb docs.length docs.length e w':=by
 obtain⟨rfl,m,s',hm1,hm2,hwf,hk,hpl,hpd,hrd⟩:=hp
 have hbl:=h.bl
 have hi:=(List.getElem?_eq_some_iff.1 hd).1
 refine⟨rfl,docs.set i ⟨d.bx,d.bd,s'⟩,⟨fun b=>if w.heap.size≤b then (if b<m then 2*i+2 else if b<w'.heap.size then 2*i+3 else 0) else own b,psv,?_⟩,by simp,by simp⟩
 have hyb:yb<w.heap.size:=(h.ol yb (by rw[h.oy];decide)).2
 refine⟨hpl,?_,?_,?_,?_,fun b e=>hbl b (by omega),?_,?_⟩
 · rw[List.length_set,ZgX docs i d ⟨d.bx,d.bd,s'⟩ hd rfl rfl]
   refine hk.row h.row (fun b e=>?_)
   have:=h.ops b e
   omega
 · rw[if_neg (by omega)];exact h.oy
 · intro b e
   have h1:=h.ops b e
   have h2:=(h.ol b (by omega)).2
   exact⟨by rw[if_neg (by omega)];exact h1.1,h1.2⟩
 · intro b e
   split at e
   · split at e
     · exact⟨hbl b (by omega),by omega⟩
     · split at e
       · exact⟨hbl b (by omega),by omega⟩
       · exact absurd rfl e
   · have:=h.ol b e
     exact⟨this.1,by omega⟩
 · refine h.fr.trans (hk.mono (fun k _ e=>.inl ?_))
   have h1:own k≠0:=by
    rcases e with e|e|e
    · omega
    · omega
    · rw[e,h.oy];decide
   exact(h.ol k h1).1
 · intro j d' hd'
   rw[List.getElem?_set] at hd'
   by_cases hij:i=j
   · subst hij
     rw[if_pos rfl,if_pos hi] at hd'
     cases hd'
     refine⟨hPD.wider hpd (fun b hb=>?_),hrd.wider (fun b hb=>?_),hwf⟩
     · rcases hb with hb|hb
       · have:=(h.ol b (by omega)).2
         rw[if_neg (by omega)];exact hb
       · rw[if_pos hb.1,if_pos hb.2]
     · rcases hb with hb|hb
       · have:=(h.ol b (by omega)).2
         rw[if_neg (by omega)];exact hb
       · rw[if_pos (by omega),if_neg (by omega),if_pos hb.2]
   · rw[if_neg hij] at hd'
     obtain⟨h1,h2,h3⟩:=h.doc j d' hd'
     refine⟨hPD.wider (hPD.keeps h1 hk (fun b hb hf=>by have:=h.oy;rcases hf with hf|hf|hf;omega;omega;(rw[hf] at hb;omega))) (fun b hb=>?_),(h2.keeps hk (fun b hb hf=>by have:=h.oy;rcases hf with hf|hf|hf;omega;omega;(rw[hf] at hb;omega))).wider (fun b hb=>?_),h3⟩
     · have:=(h.ol b (by omega)).2
       rw[if_neg (by omega)];exact hb
     · have:=(h.ol b (by omega)).2
       rw[if_neg (by omega)];exact hb
def NewOk (PD:PDT) (G:World→Prop):Prop:=∀ w:World,G w→Calls Tryz.prog 40 #[] w fun e w'=>∃ bx,e=.returned (ptr bx)∧Below w.heap.size w w'∧PD w' (fun b=>w.heap.size≤b) bx ⟨[Z5],[]⟩
theorem wf_root:WF [Z5] where
 pos:=by decide
 cap:=by decide
 up:=⟨fun _=>0,0,fun _=>Nat.le_refl _,fun i x hx hp=>by
  cases i with
  | zero=>simp at hx;subst hx;simp[Z5] at hp
  | succ i=>simp at hx⟩
 kid:=fun i x hx c hc=>by
  cases i with
  | zero=>simp at hx;subst hx;simp[Z5] at hc
  | succ i=>simp at hx
 par:=fun c y hy=>by
  cases c with
  | zero=>simp at hy;subst hy;exact .inl rfl
  | succ i=>simp at hy
 nodup:=fun i x hx=>by
  cases i with
  | zero=>simp at hx;subst hx;simp[Z5]
  | succ i=>simp at hx
 root:=fun x hx=>by simp at hx;subst hx;rfl
 elem:=fun i x hx=>by
  cases i with
  | zero=>simp at hx;subst hx;exact⟨fun h=>(by cases h),fun _=>rfl⟩
  | succ i=>simp at hx
 chars:=fun i x hx=>by
  cases i with
  | zero=>simp at hx;subst hx;exact⟨by decide,fun c hc=>by simp[Z5] at hc⟩
  | succ i=>simp at hx
abbrev Xb (kind D A B C:Int) (S:ByteArray) (p0 p1 q0 q1:Int):Array Value:=#[.int .i64 kind,.int .i64 D,.int .i64 A,.int .i64 B,.int .i64 C,.string S,.int .i64 p0,.int .i64 p1,.int .i64 q0,.int .i64 q1]
theorem J7 (hPD:PDOk PD) (h:InvE PD Q w0 w yb docs) (kind D A B C:Int) (S:ByteArray) (p0 p1 q0 q1:Int) (hk1:kind≠1) (hk:docs.length=0∨kind < 2∨15 < kind) :
 Calls Tryz.prog 15 #[ptr yb,opV kind D A B C S p0 p1 q0 q1] w (YJ PD Q w0 yb docs.length docs.length):=by
 have hI:=h
 obtain⟨own,psv,h⟩:=h
 obtain⟨a,c,hv⟩:=Zo h.row
 obtain⟨l0,a0,y0,-,hq⟩:=h.play
 have hl:=Zc hq
 have c0:w.cell? ⟨yb,0,none⟩=some (.slice a docs.length c):=by rw[← hv];exact Za hq 0
 have hk1':(kind == 1)=false:=by simpa using hk1
 have HI:=hid hI
 have HPD:=hid hPD
 clear hq h hI hPD hv hk1
 have done:∀ (v:Value) (W:World),Below w.heap.size w W→YJ PD Q w0 yb docs.length docs.length (.returned (.bool true)) W:=fun v W hb=>⟨rfl,docs,HI.out.below HPD.out hb,Nat.le_refl _,Nat.le_refl _⟩
 have DONE:=hid done
 clear done
 by_cases h0:docs.length=0
 · have h0':((docs.length:Int) == 0)=true:=by simp[h0]
   rw[h0] at c0
   go_enter Tryz.func15,Tryz.ntmps15
   go_wp2
   go_ret
   exact DONE.out (.bool true) _ (by go_grown)
 · have h0':((docs.length:Int) == 0)=false:=by simp;intro e;exact h0 (by simp[e])
   by_cases h2:kind<2
   · go_enter Tryz.func15,Tryz.ntmps15
     go_wp2
     go_ret
     exact DONE.out (.bool true) _ (by go_grown)
   · have h2':decide (kind<2)=false:=decide_eq_false h2
     have h15:15<kind:=by omega
     go_enter Tryz.func15,Tryz.ntmps15
     go_wp2
     go_ret
     exact DONE.out (.bool true) _ (by go_grown)
end
end
section
open Go.RowKit
section
variable {PD:PDT} {Q:Nat→Prop} {w0 w:World} {yb:Nat} {docs:List DocR}
theorem Zh8 (hPD:PDOk PD) (h:InvE PD Q w0 w yb docs) (kind D A B C:Int) (S:ByteArray) (p0 p1 q0 q1:Int) (hk2:2≤kind) (hk6:kind≤6) (hd0:0 < docs.length) (hdl:docs.length < lots)
 (hD1:-9223372036854775808≤D) (hD2:D≤9223372036854775807)
 (hN:∀ (W:World) (own:Nat→Nat) (psv:Value) (i:Nat) (d:DocR),docs[i]?=some d→Inv PD Q w0 W yb docs own psv →
   Calls Tryz.prog 42 #[ptr yb,.agg #[ptr d.bx,ptr d.bd],opV kind D A B C S p0 p1 q0 q1] W (Z8 PD (fun b=>own b=2*i+2) (fun b=>own b=2*i+3) W yb d.bx d.bd psv)) :
 Calls Tryz.prog 15 #[ptr yb,opV kind D A B C S p0 p1 q0 q1] w (YJ PD Q w0 yb docs.length docs.length):=by
 have hI:=h
 obtain⟨own,psv,h⟩:=h
 rcases ZB h.row with ⟨_,hz⟩|⟨g,c,hv⟩
 · omega
 have hrow:=h.row
 rw[hv] at hrow
 obtain⟨l0,a0,y0,-,hq⟩:=h.play
 have hl:=Zc hq
 have c0:w.cell? ⟨yb,0,none⟩=some (.slice (some ⟨g,0,none⟩) docs.length c):=by rw[← hv];exact Za hq 0
 have hi:=ZbW D hd0
 obtain⟨i,hie⟩:∃ i,Xy D docs.length=i:=⟨_,rfl⟩
 rw[hie] at hi
 have hd:docs[i]?=some docs[i]:=List.getElem?_eq_getElem hi
 generalize docs[i]=d at hd
 have hpg:=ZbU docs i d hd
 have cx:w.cell? ⟨g,i*2,none⟩=some (ptr d.bx):=by rw[hrow.cellAt (i*2) (by omega)];exact hpg.1
 have cd:w.cell? ⟨g,i*2+1,none⟩=some (ptr d.bd):=by rw[hrow.cellAt (i*2+1) (by omega)];exact hpg.2
 have hgl:g<w.heap.size:=(hrow.lt g rfl).2
 have hk1':(kind == 1)=false:=by simp;omega
 have hk2':decide (kind<2)=false:=decide_eq_false (by omega)
 have hk3':decide (15<kind)=false:=decide_eq_false (by omega)
 have h0':((docs.length:Int) == 0)=false:=by simp;intro e;rw[e] at hd0;simp at hd0
 have hk6':decide (kind≤6)=true:=decide_eq_true hk6
 have PICK:=hid (ZbX D docs.length hd0 hdl hD1 hD2)
 have hil:i<docs.length:=hi
 have HIE:=hid hie
 have HDL:=hid hdl
 have HI:=hid hI
 have HPD:=hid hPD
 have HN:=hid hN
 have HD:=hid hd
 clear hq h hI hPD hv hrow hN hd hpg hi hie hdl hD1 hD2
 go_enter Tryz.func15,Tryz.ntmps15
 go_wp2
 go_region_held3 (fun w'=>w'.cell? ⟨yb,0,none⟩=some (.slice (some ⟨g,0,none⟩) docs.length c)∧w'.cell? ⟨w.heap.size,1,none⟩=some (.int .i64 D)∧w'.cell? ⟨g,i*2,none⟩=some (ptr d.bx)∧w'.cell? ⟨g,i*2+1,none⟩=some (ptr d.bd)) (go_keep) (first
  | (go_at_call 21;refine(PICK.out _).mono ?_;rintro e w' ⟨rfl,rfl⟩;rw[HIE.out]))
 all_goals
  have hb:Below w.heap.size w (((w.alloc (.cells (Xb kind D A B C S p0 p1 q0 q1) 39)).alloc (.cells #[ptr d.bx,ptr d.bd] 44)).drew):=(((Below.refl _ w).alloc (Nat.le_refl _) _).alloc (by simp) _).drew
  obtain⟨own2,psv2,hI2⟩:=HI.out.below HPD.out hb
  have CN:=hid (HN.out (((w.alloc (.cells (Xb kind D A B C S p0 p1 q0 q1) 39)).alloc (.cells #[ptr d.bx,ptr d.bd] 44)).drew) own2 psv2 i d HD.out hI2)
  have HI2:=hid hI2
  clear hb hI2
  go_wp2_with (go_at_call 42;refine CN.out.mono ?_;intro e w3 hp;have he:=hp.1;subst he;have HP:=hid hp;clear hp)
  go_ret
  exact HI2.out.stepped HPD.out HD.out HP.out
end
end
section
open Go.RowKit
section
variable {PD:PDT} {Q:Nat→Prop} {w0 w:World} {yb:Nat} {docs:List DocR} {own:Nat→Nat} {psv:Value}
theorem Inv.pushed (hPD:PDOk PD) (h:Inv PD Q w0 w yb docs own psv) {w1 w2 wA w3:World} {bx bd g' cap' A:Nat} (b1:Below w.heap.size w w1) (hA:w.heap.size≤A) (hA1:A≤w1.heap.size) (pd:PD w1 (fun b=>A≤b) bx ⟨[Z5],[]⟩)
 (b2:Below w1.heap.size w1 w2) (rd:RDoc w2 (fun b=>w1.heap.size≤b) bd [Z5] []) (bA:Below w2.heap.size w2 wA) (hz:w2.heap.size<wA.heap.size)
 (hg:wA.grownBy w3 psv.ownBlock) (ho:w3.ownsRow 0 44 2 (.slice (some ⟨g',0,none⟩) (docs.length+1) cap') (docs.length+1) ((docs.flatMap fun d=>[ptr d.bx,ptr d.bd])++[ptr bx,ptr bd]))
 (hgn:psv.ownBlock=some g'∨g'=wA.heap.size) :
 InvE PD Q w0 (w3.setCell ⟨yb,0,none⟩ (.slice (some ⟨g',0,none⟩) (docs.length+1) cap')) yb (docs++[⟨bx,bd,⟨[Z5],[]⟩⟩]):=by
 have z1:=b1.size
 have z2:=b2.size
 have zA:=bA.size
 have z3:=hg.size
 have hbl:=h.bl
 have hgl:g' < w3.heap.size:=(ho.lt g' rfl).2
 have hyb:yb<w.heap.size:=(h.ol yb (by rw[h.oy];decide)).2
 have hps:∀ b,psv.ownBlock=some b→b<w.heap.size∧own b=1∧b≠yb:=fun b e=>⟨(h.ol b (by rw[(h.ops b e).1];decide)).2,h.ops b e⟩
 have hgy:g'≠yb:=by
  rcases hgn with e|e
  · exact(hps g' e).2.2
  · omega
 have kA:Below w.heap.size w wA:=(b1.trans (b2.mono z1)).trans (bA.mono (by omega))
 have k3:Zb (fun b=>psv.ownBlock=some b) wA w3:=Zb.grown hg (fun k e=>.inl e)
 have kW:Zb (fun b=>psv.ownBlock=some b∨b=yb) wA (w3.setCell ⟨yb,0,none⟩ (.slice (some ⟨g',0,none⟩) (docs.length+1) cap')) :=
  (k3.mono (fun k _ e=>.inl e)).setCell (p:=⟨yb,0,none⟩) (.inl (.inr rfl)) _
 have zW:(w3.setCell ⟨yb,0,none⟩ (.slice (some ⟨g',0,none⟩) (docs.length+1) cap')).heap.size=w3.heap.size:=by simp
 have newK:∀ {F:Nat→Prop},(∀ b,F b→w.heap.size≤b)→∀ b,F b→¬ (psv.ownBlock=some b∨b=yb):=by
  intro F hF b hb e
  have:=hF b hb
  rcases e with e|e
  · have:=(hps b e).1;omega
  · omega
 refine⟨fun b=>if w.heap.size≤b then (if b=g' then 1 else if b<A then 0 else if b<w1.heap.size then 2*docs.length+2 else if b<w2.heap.size then 2*docs.length+3 else 0) else own b,.slice (some ⟨g',0,none⟩) (docs.length+1) cap',?_⟩
 have hg2:g' < w.heap.size∨w2.heap.size≤g':=by
  rcases hgn with e|e
  · exact .inl (hps g' e).1
  · exact .inr (by omega)
 refine⟨?_,?_,?_,?_,?_,?_,?_,?_⟩
 · obtain⟨l0,a0,y0,he,hq⟩:=h.play
   have e1:w3.heap[yb]?=_:=(k3.block yb (by omega) (fun e=>(hps yb e).2.2 rfl)).trans ((kA.block yb hyb).trans hq)
   refine⟨l0,a0,y0,he,?_⟩
   rw[heap_setCell_same w3 yb 0 _ _ _ e1];simp
 · rw[List.length_append,List.flatMap_append]
   simpa using XV ho (p:=⟨yb,0,none⟩) (by simp[Value.ownBlock];exact hgy) _
 · rw[if_neg (by omega)];exact h.oy
 · intro b e
   have e':g'=b:=by simpa[Value.ownBlock] using e
   subst e'
   refine⟨?_,hgy⟩
   rcases hgn with e|e
   · have:=hps g' e
     rw[if_neg (by omega)];exact this.2.1
   · rw[if_pos (by omega),if_pos rfl]
 · intro b e
   rw[zW]
   split at e
   · refine⟨hbl b (by omega),?_⟩
     split at e
     · rename_i hb;rw[hb];exact hgl
     · split at e
       · exact absurd rfl e
       · split at e
         · omega
         · split at e
           · omega
           · exact absurd rfl e
   · have:=h.ol b e
     exact⟨this.1,by omega⟩
 · intro b e;rw[zW] at e;exact hbl b (by omega)
 · refine(h.fr.trans (Zb.of_below kA)).trans (kW.mono (fun k _ e=>.inl ?_))
   rcases e with e|e
   · exact(h.ol k (by rw[(h.ops k e).1];decide)).1
   · rw[e];exact(h.ol yb (by rw[h.oy];decide)).1
 · intro i d hd
   by_cases hi:i<docs.length
   · rw[List.getElem?_append_left hi] at hd
     obtain⟨h1,h2,h3⟩:=h.doc i d hd
     have kA':=Zb.of_below (F:=fun _=>False) kA
     refine⟨hPD.wider (hPD.keeps (hPD.keeps h1 kA' (fun _ _ e=>e)) kW (fun b hb e=>?_)) (fun b hb=>?_),((h2.keeps kA' (fun _ _ e=>e)).keeps kW (fun b hb e=>?_)).wider (fun b hb=>?_),h3⟩
     · rcases e with e|e
       · have:=(hps b e).2.1;omega
       · rw[e,h.oy] at hb;omega
     · have:=(h.ol b (by omega)).2
       rw[if_neg (by omega)];exact hb
     · rcases e with e|e
       · have:=(hps b e).2.1;omega
       · rw[e,h.oy] at hb;omega
     · have:=(h.ol b (by omega)).2
       rw[if_neg (by omega)];exact hb
   · rw[List.getElem?_append_right (by omega)] at hd
     have hi1:=(List.getElem?_eq_some_iff.1 hd).1
     simp at hi1
     have ei:i=docs.length:=by omega
     subst ei
     simp at hd
     subst hd
     have p1:=hPD.narrow pd
     have p2:=hPD.keeps p1 (Zb.of_below (F:=fun _=>False) b2) (fun _ _ e=>e)
     have p3:=hPD.keeps p2 (Zb.of_below (F:=fun _=>False) bA) (fun _ _ e=>e)
     have p4:=hPD.keeps p3 kW (newK (fun b hb=>by omega))
     have r1:=rd.narrow
     have r2:=r1.keeps (Zb.of_below (F:=fun _=>False) bA) (fun _ _ e=>e)
     have r3:=r2.keeps kW (newK (fun b hb=>by omega))
     refine⟨hPD.wider p4 (fun b hb=>?_),r3.wider (fun b hb=>?_),hPD.root⟩
     · rw[if_pos (by omega),if_neg (by omega),if_neg (by omega),if_pos (by omega)]
     · rw[if_pos (by omega),if_neg (by omega),if_neg (by omega),if_neg (by omega),if_pos (by omega)]
end
theorem Tryz.info44:(Tryz.prog.info? 44).map (fun i=>(i.zero,i.size,i.bytes))=some (some (.agg #[.pointer none,.pointer none]),2,16):=by kernel_rfl
section
variable {PD:PDT} {G:World→Prop} {Q:Nat→Prop} {w0 w:World} {yb:Nat} {docs:List DocR}
theorem step_new (hPD:PDOk PD) (h:InvE PD Q w0 w yb docs) (hG:∀ W,Zb Q w0 W→G W) (hnew:NewOk PD G) (D A B C:Int) (S:ByteArray) (p0 p1 q0 q1:Int) (hdl:docs.length < lots) :
 Calls Tryz.prog 15 #[ptr yb,opV 1 D A B C S p0 p1 q0 q1] w (YJ PD Q w0 yb (docs.length+1) (docs.length+1)):=by
 obtain⟨i0,hi,hz0,hz1,hz2⟩:=info_parts Tryz.info44
 obtain⟨own,psv,h⟩:=h
 obtain⟨a,c,hv⟩:=Zo h.row
 obtain⟨l0,a0,y0,-,hq⟩:=h.play
 have hl:=Zc hq
 have hB:Below w.heap.size w (w.alloc (.cells (Xb 1 D A B C S p0 p1 q0 q1) 39)):=(Below.refl _ w).alloc (Nat.le_refl _) _
 have CN:=hid (hnew (w.alloc (.cells (Xb 1 D A B C S p0 p1 q0 q1) 39)) (hG _ (h.fr.trans (Zb.of_below hB))))
 have HQ:=hid hq
 have HI:=hid h
 have HPD:=hid hPD
 have HB:=hid hB
 have HV:=hid hv
 have HDL:=hid hdl
 clear hq h hPD hB hv hnew hG hdl
 go_enter Tryz.func15,Tryz.ntmps15
 go_wp2_with (
  go_at_call 40
  refine CN.out.mono ?_
  clear CN
  rintro e w1 ⟨bx,rfl,b1,pd⟩
  have hbb:Below w.heap.size w w1:=HB.out.trans (b1.mono (by simp))
  have hq1:=(hbb.block yb hl).trans HQ.out
  have c1:w1.cell? ⟨yb,0,none⟩=some (.slice a docs.length c):=by rw[← HV.out];exact Za hq1 0
  have l1:yb<w1.heap.size:=Zc hq1
  have HQ1:=hid hq1
  have B1:=hid hbb
  have PDx:=hid pd
  have ZA:=hid b1.size
  clear hbb pd hq1 b1)
 go_cut [] from 7 to 74 (fun wc=>∃ docs',InvE PD Q w0 wc yb docs'∧docs'.length=docs.length+1)
 case first =>
  go_region_law (first
   | (refine step_append_lies _ rfl (.tmp 15) (.tmp 19) 27 rfl 0 44 i0 _ 2 16 Tryz.underlying27 hi hz0 hz1 hz2 rfl (by decide) (.slice a docs.length c) docs.length _ (by simp[Act.eval,Act.put]) HROW.out ⟨w2.heap.size,0,none⟩ 1 1 [ptr bx,ptr bd] (by simp[Act.eval,Act.put]) rfl SRC.out (by simp[Value.oneCell']) (by decide) (by unfold maxLen;have:=HDL.out;unfold lots at this;omega) (by have:=HDL.out;unfold lots at this;omega) (Nat.zero_le _) (w2.heap.size+1) (by simp) ?_
      intro g cap' w3 ho hg hgn _
      have hd3:=(hg.block yb (by simp only[World.size_alloc];have:=Zc HQ2.out;omega) YN.out).trans ((Below.heap_alloc _ _ _ (Zc HQ2.out)).trans HQ2.out)
      have c3:w3.cell? ⟨yb,0,none⟩=some psv:=Za hd3 0
      have f3:=Zd hd3 0
      have HG3:=hid hg
      have HO3:=hid ho
      have HN3:=hid hgn
      clear hd3 hg ho hgn)
   | (go_simp
      go_at_call 41
      refine(rnew_any _).mono ?_
      rintro e w2 ⟨bd,rfl,b2,rd⟩
      have hq2:=(b2.block yb (Zc HQ1.out)).trans HQ1.out
      have c2:w2.cell? ⟨yb,0,none⟩=some (.slice a docs.length c):=by rw[← HV.out];exact Za hq2 0
      have l2:yb<w2.heap.size:=Zc hq2
      have HQ2:=hid hq2
      have hb2:Below w1.heap.size w1 w2:=⟨b2.os,b2.tape,b2.output,b2.size,b2.block⟩
      have hrow:(w2.alloc (.cells #[ptr bx,ptr bd] 44)).ownsRow 0 44 2 (.slice a docs.length c) docs.length (docs.flatMap fun d=>[ptr d.bx,ptr d.bd]):=by
       rw[← HV.out]
       exact(Zb.of_below (F:=fun _=>False) (((B1.out.trans (hb2.mono B1.out.size)).alloc (by have:=B1.out.size;have:=hb2.size;omega) _))).row HI.out.row (fun _ _ e=>e)
      have HROW:=hid hrow
      have src:=World.news_of_block (heap_alloc_new w2 (.cells #[ptr bx,ptr bd] 44))
      have SRC:=hid src
      have YN:Hid (some yb≠(Value.slice a docs.length c).ownBlock):=by rw[← HV.out];intro e;exact(HI.out.ops yb e.symm).2 rfl
      have B2:=hid hb2
      have RD:=hid rd
      clear hq2 hb2 b2 rd hrow src))
  all_goals
   go_wp2_with fail
   go_meet
   case rel =>
    refine⟨docs++[⟨bx,bd,⟨[Z5],[]⟩⟩],HI.out.pushed HPD.out (A:=(w.alloc (.cells (Xb 1 D A B C S p0 p1 q0 q1) 39)).heap.size) B1.out (by simp) ZA.out PDx.out B2.out RD.out ((Below.refl _ w2).alloc (Nat.le_refl _) _) (by simp) (by rw[HV.out];exact HG3.out) HO3.out ?_,by simp⟩
    rcases HN3.out with e|e
    · exact .inl (by rw[HV.out];exact e)
    · exact .inr (by simpa using e)
 case rest =>
  obtain⟨docs',hI',hl'⟩:=hcut
  have HI':=hid hI'
  clear hI'
  go_wp2
  go_ret
  exact⟨by simp,docs',HI'.out,by omega,by omega⟩
end
end
end Go.Proofs.YtabogkonklplcaaGreatDoor
