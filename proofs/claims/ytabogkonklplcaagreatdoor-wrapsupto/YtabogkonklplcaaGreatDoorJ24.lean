import Derived.Test.YtabogkonklplcaaGreatDoorJ19
import Derived.Test.YtabogkonklplcaaGreatDoorJ20
import Derived.Test.YtabogkonklplcaaGreatDoorJ23
import Derived.Test.YtabogkonklplcaaGreatDoorJ13
import Derived.BigQuiet
import Derived.Deep.Cut
import Derived.Deep.CutRange
import Derived.Test.YtabogkonklplcaaGreatDoorJ09
import Derived.Deep.RegionWith
namespace Go.Proofs.YtabogkonklplcaaGreatDoor
set_option linter.unusedSimpArgs false
set_option linter.unusedVariables false
set_option maxRecDepth 20000
set_option maxHeartbeats 8000000
section
open Go.RowKit
theorem Zfj {W:World} {F:Nat→Prop} {bf bn cap:Nat} {pn:List PN} {s:List Nd} (wf:WF s) {h:Nat→Nat} {B:Nat} (u:Up s h B) (hD:Zh W F bf bn cap pn s) (k n:Nat) (hn:n < s.length) (hk:h n < k) :
 Calls Tryz.prog 89 #[.func (.func 138) #[] #[ptr (W.heap.size+1),ptr W.heap.size]] ((W.alloc (.cells #[ptr bf] 91)).alloc (.cells #[.int .i64 (n:Int)] 3)) fun e w' =>
  ∃ a c,e=.returned (.slice a (allF s k n).length c)∧Below W.heap.size W w'∧w'.ownsRow 0 3 1 (.slice a (allF s k n).length c) (allF s k n).length (Zg (allF s k n))∧(∀ b,(Value.slice a (allF s k n).length c).ownBlock=some b→W.heap.size≤b):=by
 have hl:=Yr wf k n hn
 have hN:=hD.narrow
 have hlt:=hD.lt
 obtain⟨wb,hwb⟩:∃ wb,(W.alloc (.cells #[ptr bf] 91)).alloc (.cells #[.int .i64 (n:Int)] 3)=wb:=⟨_,rfl⟩
 have hszb:wb.heap.size=W.heap.size+2:=by rw[← hwb];simp
 have hbb:Below W.heap.size W wb:=by rw[← hwb];exact((Below.refl _ W).alloc (Nat.le_refl _) _).alloc (by simp) _
 have x1:wb.heap[W.heap.size+1]?=some (.cells #[.int .i64 (n:Int)] 3 (0,0)):=by
  have:=heap_alloc_new (W.alloc (.cells #[ptr bf] 91)) (.cells #[.int .i64 (n:Int)] 3)
  rw[hwb,World.size_alloc] at this
  exact this
 have x0:wb.heap[W.heap.size]?=some (.cells #[ptr bf] 91 (0,0)):=by
  rw[← hwb,Below.heap_alloc _ _ _ (by simp)]
  exact heap_alloc_new W _
 rw[hwb]
 refine(Zfk (gf:=138) (lb:=#[ptr (W.heap.size+1),ptr W.heap.size]) (enters_of Tryz.func138 (by kernel_rfl) rfl) (xs:=allF s k n) (by unfold lots;omega) (w:=wb)
  (fun w1 O hb hO=>Zaf wf u k n hn hk w1 O _ _ ((hN.below hbb).below hb) (fun b hbF=>⟨by have:=hbF.2;have:=hb.size;omega,fun e=>by have:=hO b e;have:=hbF.2;omega⟩)
    ((hb.cell (p:=⟨W.heap.size+1,0,none⟩) (Zc x1)).trans (Za x1 0)) ((hb.cell (p:=⟨W.heap.size,0,none⟩) (Zc x0)).trans (Za x0 0)) (fun e=>by have:=hO _ e;omega) (fun e=>by have:=hO _ e;omega))).mono ?_
 rintro e w' ⟨a,c,rfl,hr,hb,hg⟩
 exact⟨a,c,rfl,hbb.trans (hb.mono (by omega)),hr,fun g e=>by have:=hg g e;omega⟩
end
section
open Go.RowKit Go.Lib
abbrev ptwo (w:World) (a0 a1 b0 b1:Int):World:=(w.alloc (.cells #[.int .i64 a0,.int .i64 a1] 37)).alloc (.cells #[.int .i64 b0,.int .i64 b1] 37)
theorem ZM (w:World) (a0 a1 b0 b1:Int):Below w.heap.size w (ptwo w a0 a1 b0 b1):=((Below.refl _ w).alloc (Nat.le_refl _) _).alloc (by simp) _
theorem YH {w w1:World} {a0 a1 b0 b1:Int} (hb:Below (ptwo w a0 a1 b0 b1).heap.size (ptwo w a0 a1 b0 b1) w1) :
 w1.heap[w.heap.size]?=some (.cells #[.int .i64 a0,.int .i64 a1] 37 (0,0))∧w1.heap[w.heap.size+1]?=some (.cells #[.int .i64 b0,.int .i64 b1] 37 (0,0)):=by
 constructor
 · rw[hb.block _ (by simp;omega),Below.heap_alloc _ _ _ (by simp),heap_alloc_new]
 · rw[hb.block _ (by simp)]
   have:=heap_alloc_new (w.alloc (.cells #[.int .i64 a0,.int .i64 a1] 37)) (.cells #[.int .i64 b0,.int .i64 b1] 37)
   simpa using this
structure ZR (m:Nat) (w:World) (mv:Value) (f:Mvf):Prop where
 runs:∃ (gf:Nat) (lb:Array Value),mv=.func (.func gf) #[] lb∧(∀ args w,(callFunc gf args).run Tryz.prog w=.ok (.enter gf args) w) ∧
  ∀ (G:Nat→Prop) (W:World),Zb G w W→(∀ b,m≤b→¬ G b)→∀ a b:Int,0≤b→b≤100 →
   Calls Tryz.prog gf (#[.agg #[.int .i64 a,.int .i64 b]]++lb) W fun e w'=>e=.returned (.agg #[.int .i64 (f a b).1,.int .i64 (f a b).2])∧Below W.heap.size W w'
theorem shift1 (n o d a b:Int) (x y z:Nat) (W:World) (h0:W.cell? ⟨x,0,none⟩=some (.int .i64 n)) (h1:W.cell? ⟨y,0,none⟩=some (.int .i64 o)) (h2:W.cell? ⟨z,0,none⟩=some (.int .i64 d)) (hb0:0≤b) (hb:b≤100) (hd0:-100≤d) (hd:d≤100) :
 Calls Tryz.prog 158 #[.agg #[.int .i64 a,.int .i64 b],ptr x,ptr y,ptr z] W fun e w'=>e=.returned (.agg #[.int .i64 (Ze n o d a b).1,.int .i64 (Ze n o d a b).2])∧Below W.heap.size W w':=by
 have l0:=World.block_lt_of_cell? W _ h0
 have l1:=World.block_lt_of_cell? W _ h1
 have l2:=World.block_lt_of_cell? W _ h2
 by_cases ha:a=n
 · subst ha
   by_cases ho:o<b
   · have e1:Ze a o d a b=(a,b+d):=by simp[Ze,ho]
     rw[e1]
     have d2:decide (o<b)=true:=decide_eq_true ho
     go_enter Tryz.func158,Tryz.ntmps158
     go_wp2
     refine bodyPost_ret (v:=.agg #[.int .i64 a,.int .i64 (b+d)]) (by simp[results,Tryz.results158,go_sem]) rfl ?_
     exact⟨rfl,by go_grown⟩
   · have e1:Ze a o d a b=(a,b):=by simp[Ze,ho]
     rw[e1]
     have d2:decide (o<b)=false:=decide_eq_false ho
     go_enter Tryz.func158,Tryz.ntmps158
     go_wp2
     refine bodyPost_ret (v:=.agg #[.int .i64 a,.int .i64 b]) (by simp[results,Tryz.results158,go_sem]) rfl ?_
     exact⟨rfl,by go_grown⟩
 · have e1:Ze n o d a b=(a,b):=by simp[Ze,ha]
   rw[e1]
   have d1:(a == n)=false:=by simpa using ha
   go_enter Tryz.func158,Tryz.ntmps158
   go_wp2
   refine bodyPost_ret (v:=.agg #[.int .i64 a,.int .i64 b]) (by simp[results,Tryz.results158,go_sem]) rfl ?_
   exact⟨rfl,by go_grown⟩
end
section
open Go.RowKit Go.Lib
structure YC (W:World) (n o d:Int) (x y z:Nat):Prop where
 h0:W.cell? ⟨x,0,none⟩=some (.int .i64 n)
 h1:W.cell? ⟨y,0,none⟩=some (.int .i64 o)
 h2:W.cell? ⟨z,0,none⟩=some (.int .i64 d)
 d0:-100≤d
 d1:d≤100
theorem YC.runs {W W1:World} {n o d:Int} {x y z:Nat} (h:YC W n o d x y z) (hb:Below W.heap.size W W1) {a b:Int} (hb0:0≤b) (hb1:b≤100) :
 Calls Tryz.prog 158 #[.agg #[.int .i64 a,.int .i64 b],ptr x,ptr y,ptr z] W1 fun e w'=>e=.returned (.agg #[.int .i64 (Ze n o d a b).1,.int .i64 (Ze n o d a b).2])∧Below W1.heap.size W1 w' :=
 shift1 n o d a b x y z W1 ((hb.cell (World.block_lt_of_cell? W _ h.h0)).trans h.h0) ((hb.cell (World.block_lt_of_cell? W _ h.h1)).trans h.h1) ((hb.cell (World.block_lt_of_cell? W _ h.h2)).trans h.h2) hb0 hb1 h.d0 h.d1
abbrev ZP (x y z:Nat):Value:=.func (.func 158) #[] #[ptr x,ptr y,ptr z]
theorem resize1 (n o t g a b:Int) (B0 B1 B2 B3 x y z:Nat) (W:World) (k0:W.cell? ⟨B0,0,none⟩=some (.int .i64 n)) (k1:W.cell? ⟨B1,0,none⟩=some (.int .i64 o)) (k2:W.cell? ⟨B2,0,none⟩=some (.int .i64 t)) (k3:W.cell? ⟨B3,0,none⟩=some (ZP x y z)) (hS:YC W n (o+t) (g - t) x y z) (ho0:0≤o) (ho:o≤100) (ht0:0≤t) (ht:t≤100) (hb0:0≤b) (hb:b≤100) :
 Calls Tryz.prog 154 #[.agg #[.int .i64 a,.int .i64 b],ptr B0,ptr B1,ptr B2,ptr B3] W fun e w'=>e=.returned (.agg #[.int .i64 (Zl n o t g a b).1,.int .i64 (Zl n o t g a b).2])∧Below W.heap.size W w':=by
 have l0:=World.block_lt_of_cell? W _ k0
 have l1:=World.block_lt_of_cell? W _ k1
 have l2:=World.block_lt_of_cell? W _ k2
 have l3:=World.block_lt_of_cell? W _ k3
 have HS:=hid (fun W1 (hB:Below W.heap.size W W1)=>hS.runs hB (a:=a) (b:=b) hb0 hb)
 have q:IntKind.i64.wrap (o+t)=o+t:=by rw[IntKind.wrap_i64];omega
 clear hS
 by_cases hc:a=n∧o<b∧b≤o+t
 · obtain⟨rfl,h2,h3⟩:=hc
   have e1:Zl a o t g a b=(a,o):=by simp[Zl,h2,h3]
   rw[e1]
   have d2:decide (o<b)=true:=decide_eq_true h2
   have d3:decide (b≤o+t)=true:=decide_eq_true h3
   go_enter Tryz.func154,Tryz.ntmps154
   go_wp2
   refine bodyPost_ret (v:=.agg #[.int .i64 a,.int .i64 o]) (by simp[results,Tryz.results154,go_sem]) rfl ?_
   exact⟨rfl,by go_grown⟩
 · have e1:Zl n o t g a b=Ze n (o+t) (g - t) a b:=by unfold Zl;rw[if_neg hc]
   rw[e1]
   obtain⟨r0,r1,hr⟩:∃ r0 r1,Ze n (o+t) (g - t) a b=(r0,r1):=⟨_,_,rfl⟩
   rw[hr] at HS ⊢
   clear hr e1
   by_cases h1:a=n
   · subst h1
     by_cases h2:o<b
     · have h3:¬ b≤o+t:=fun h=>hc ⟨rfl,h2,h⟩
       have d2:decide (o<b)=true:=decide_eq_true h2
       have d3:decide (b≤o+t)=false:=decide_eq_false h3
       go_enter Tryz.func154,Tryz.ntmps154
       go_wp2_with (go_at_call 158;refine(HS.out _ (ZM W a b 0 0)).mono ?_;rintro e w1 ⟨rfl,hb1⟩
                    obtain⟨q1,q2⟩:=YH hb1
                    have z0:w1.cell? ⟨W.heap.size+1,0,none⟩=some (.int .i64 0):=Za q2 0
                    have z1:w1.cell? ⟨W.heap.size+1,1,none⟩=some (.int .i64 0):=Za q2 1
                    have f0:=Zd q2 0
                    have f1:=Zd q2 1
                    have hl:=Zc q2
                    have HB:=hid ((ZM W a b 0 0).trans (hb1.mono (ZM W a b 0 0).size))
                    clear q1 q2 hb1)
       refine bodyPost_ret (v:=.agg #[.int .i64 r0,.int .i64 r1]) (by simp[results,Tryz.results154,go_sem,z0,z1,f0,f1,hl]) rfl ?_
       exact⟨rfl,(HB.out.setCell (p:=⟨W.heap.size+1,0,none⟩) (Nat.le_succ _) _).setCell (p:=⟨W.heap.size+1,1,none⟩) (Nat.le_succ _) _⟩
     · have d2:decide (o<b)=false:=decide_eq_false h2
       go_enter Tryz.func154,Tryz.ntmps154
       go_wp2_with (go_at_call 158;refine(HS.out _ (ZM W a b 0 0)).mono ?_;rintro e w1 ⟨rfl,hb1⟩
                    obtain⟨q1,q2⟩:=YH hb1
                    have z0:w1.cell? ⟨W.heap.size+1,0,none⟩=some (.int .i64 0):=Za q2 0
                    have z1:w1.cell? ⟨W.heap.size+1,1,none⟩=some (.int .i64 0):=Za q2 1
                    have f0:=Zd q2 0
                    have f1:=Zd q2 1
                    have hl:=Zc q2
                    have HB:=hid ((ZM W a b 0 0).trans (hb1.mono (ZM W a b 0 0).size))
                    clear q1 q2 hb1)
       refine bodyPost_ret (v:=.agg #[.int .i64 r0,.int .i64 r1]) (by simp[results,Tryz.results154,go_sem,z0,z1,f0,f1,hl]) rfl ?_
       exact⟨rfl,(HB.out.setCell (p:=⟨W.heap.size+1,0,none⟩) (Nat.le_succ _) _).setCell (p:=⟨W.heap.size+1,1,none⟩) (Nat.le_succ _) _⟩
   · have d1:(a == n)=false:=by simpa using h1
     go_enter Tryz.func154,Tryz.ntmps154
     go_wp2_with (go_at_call 158;refine(HS.out _ (ZM W a b 0 0)).mono ?_;rintro e w1 ⟨rfl,hb1⟩
                  obtain⟨q1,q2⟩:=YH hb1
                  have z0:w1.cell? ⟨W.heap.size+1,0,none⟩=some (.int .i64 0):=Za q2 0
                  have z1:w1.cell? ⟨W.heap.size+1,1,none⟩=some (.int .i64 0):=Za q2 1
                  have f0:=Zd q2 0
                  have f1:=Zd q2 1
                  have hl:=Zc q2
                  have HB:=hid ((ZM W a b 0 0).trans (hb1.mono (ZM W a b 0 0).size))
                  clear q1 q2 hb1)
     refine bodyPost_ret (v:=.agg #[.int .i64 r0,.int .i64 r1]) (by simp[results,Tryz.results154,go_sem,z0,z1,f0,f1,hl]) rfl ?_
     exact⟨rfl,(HB.out.setCell (p:=⟨W.heap.size+1,0,none⟩) (Nat.le_succ _) _).setCell (p:=⟨W.heap.size+1,1,none⟩) (Nat.le_succ _) _⟩
theorem carry1 (n o fr m i d a b:Int) (B0 B1 B2 B3 x y z:Nat) (W:World) (k0:W.cell? ⟨B0,0,none⟩=some (.int .i64 n)) (k1:W.cell? ⟨B1,0,none⟩=some (.int .i64 o)) (k2:W.cell? ⟨B2,0,none⟩=some (.int .i64 fr)) (k3:W.cell? ⟨B3,0,none⟩=some (ZP x y z)) (hS:YC W m i d x y z) (ho0:0≤o) (ho:o≤100) (hb0:0≤b) (hb:b≤100) :
 Calls Tryz.prog 157 #[.agg #[.int .i64 a,.int .i64 b],ptr B0,ptr B1,ptr B2,ptr B3] W fun e w'=>e=.returned (.agg #[.int .i64 (Zp n o fr (Ze m i d) a b).1,.int .i64 (Zp n o fr (Ze m i d) a b).2])∧Below W.heap.size W w':=by
 have l0:=World.block_lt_of_cell? W _ k0
 have l1:=World.block_lt_of_cell? W _ k1
 have l2:=World.block_lt_of_cell? W _ k2
 have l3:=World.block_lt_of_cell? W _ k3
 have HS:=hid (fun W1 (hB:Below W.heap.size W W1)=>hS.runs hB (a:=a) (b:=b) hb0 hb)
 clear hS
 by_cases hc:a=n∧o<b
 · obtain⟨rfl,h2⟩:=hc
   have e1:Zp a o fr (Ze m i d) a b=(fr,b - o):=by simp[Zp,h2]
   rw[e1]
   have d2:decide (o<b)=true:=decide_eq_true h2
   go_enter Tryz.func157,Tryz.ntmps157
   go_wp2
   refine bodyPost_ret (v:=.agg #[.int .i64 fr,.int .i64 (b - o)]) (by simp[results,Tryz.results157,go_sem]) rfl ?_
   exact⟨rfl,by go_grown⟩
 · have e1:Zp n o fr (Ze m i d) a b=Ze m i d a b:=by unfold Zp;rw[if_neg hc]
   rw[e1]
   obtain⟨r0,r1,hr⟩:∃ r0 r1,Ze m i d a b=(r0,r1):=⟨_,_,rfl⟩
   rw[hr] at HS ⊢
   clear hr e1
   by_cases h1:a=n
   · subst h1
     have d2:decide (o<b)=false:=decide_eq_false (fun h=>hc ⟨rfl,h⟩)
     go_enter Tryz.func157,Tryz.ntmps157
     go_wp2_with (go_at_call 158;refine(HS.out _ (ZM W a b 0 0)).mono ?_;rintro e w1 ⟨rfl,hb1⟩
                  obtain⟨q1,q2⟩:=YH hb1
                  have z0:w1.cell? ⟨W.heap.size+1,0,none⟩=some (.int .i64 0):=Za q2 0
                  have z1:w1.cell? ⟨W.heap.size+1,1,none⟩=some (.int .i64 0):=Za q2 1
                  have f0:=Zd q2 0
                  have f1:=Zd q2 1
                  have hl:=Zc q2
                  have HB:=hid ((ZM W a b 0 0).trans (hb1.mono (ZM W a b 0 0).size))
                  clear q1 q2 hb1)
     refine bodyPost_ret (v:=.agg #[.int .i64 r0,.int .i64 r1]) (by simp[results,Tryz.results157,go_sem,z0,z1,f0,f1,hl]) rfl ?_
     exact⟨rfl,(HB.out.setCell (p:=⟨W.heap.size+1,0,none⟩) (Nat.le_succ _) _).setCell (p:=⟨W.heap.size+1,1,none⟩) (Nat.le_succ _) _⟩
   · have d1:(a == n)=false:=by simpa using h1
     go_enter Tryz.func157,Tryz.ntmps157
     go_wp2_with (go_at_call 158;refine(HS.out _ (ZM W a b 0 0)).mono ?_;rintro e w1 ⟨rfl,hb1⟩
                  obtain⟨q1,q2⟩:=YH hb1
                  have z0:w1.cell? ⟨W.heap.size+1,0,none⟩=some (.int .i64 0):=Za q2 0
                  have z1:w1.cell? ⟨W.heap.size+1,1,none⟩=some (.int .i64 0):=Za q2 1
                  have f0:=Zd q2 0
                  have f1:=Zd q2 1
                  have hl:=Zc q2
                  have HB:=hid ((ZM W a b 0 0).trans (hb1.mono (ZM W a b 0 0).size))
                  clear q1 q2 hb1)
     refine bodyPost_ret (v:=.agg #[.int .i64 r0,.int .i64 r1]) (by simp[results,Tryz.results157,go_sem,z0,z1,f0,f1,hl]) rfl ?_
     exact⟨rfl,(HB.out.setCell (p:=⟨W.heap.size+1,0,none⟩) (Nat.le_succ _) _).setCell (p:=⟨W.heap.size+1,1,none⟩) (Nat.le_succ _) _⟩
end
section
open Go.RowKit Go.Lib
theorem gather1 (l:List Nat) (p q m i d a b:Int) (B0 B1 B2 x y z:Nat) (v:Value) (W:World) (hrow:W.ownsRow 0 3 1 v l.length (Zg l)) (hne:l≠[]) (hl:l.length < lots) (k0:W.cell? ⟨B0,0,none⟩=some v) (k1:W.cell? ⟨B1,0,none⟩=some (.int .i64 p)) (k1':W.cell? ⟨B1,1,none⟩=some (.int .i64 q)) (k2:W.cell? ⟨B2,0,none⟩=some (ZP x y z)) (hS:YC W m i d x y z) (hb0:0≤b) (hb:b≤100) :
 Calls Tryz.prog 178 #[.agg #[.int .i64 a,.int .i64 b],ptr B0,ptr B1,ptr B2] W fun e w'=>e=.returned (.agg #[.int .i64 (Zz l p q (Ze m i d) a b).1,.int .i64 (Zz l p q (Ze m i d) a b).2])∧Below W.heap.size W w':=by
 have l0:=World.block_lt_of_cell? W _ k0
 have l1:=World.block_lt_of_cell? W _ k1
 have l2:=World.block_lt_of_cell? W _ k2
 obtain⟨g,cp,cur,hv,hh,hn,hc,hcs,ht,hcell,hfr⟩:=ZaT hrow hne
 subst hv
 have CC:=hid (fun W1 (hB:Below W.heap.size W W1)=>Tryz.slices_Contains_int g 0 l.length cp (l.map Int.ofNat) a W1 (by simp) (by unfold lots at hl;omega) (fun j hj=>(hB.cell (p:=⟨g,0+j,none⟩) (Zc hh)).trans (hcell j hj)))
 rw[List.take_of_length_le (by simp)] at CC
 have HS:=hid (fun W1 (hB:Below W.heap.size W W1)=>hS.runs hB (a:=a) (b:=b) hb0 hb)
 clear hS hrow hh hcell hfr ht
 cases hin:(l.map Int.ofNat).contains a with
 | true =>
   have e1:Zz l p q (Ze m i d) a b=(p,q):=by unfold Zz;rw[if_pos hin]
   rw[e1]
   rw[hin] at CC
   clear hin e1
   go_enter Tryz.func178,Tryz.ntmps178
   go_wp2_with (go_at_call 179;refine(CC.out _ (ZM W a b 0 0)).mono ?_;rintro e w1 ⟨rfl,hw1⟩;replace hw1:=hw1.symm;subst hw1)
   refine bodyPost_ret (v:=.agg #[.int .i64 p,.int .i64 q]) (by simp[results,Tryz.results178,go_sem]) rfl ?_
   exact⟨rfl,by go_grown⟩
 | false =>
   have e1:Zz l p q (Ze m i d) a b=Ze m i d a b:=by unfold Zz;rw[if_neg (by rw[hin];decide)]
   rw[e1]
   rw[hin] at CC
   obtain⟨r0,r1,hr⟩:∃ r0 r1,Ze m i d a b=(r0,r1):=⟨_,_,rfl⟩
   rw[hr] at HS ⊢
   clear hr e1 hin
   go_enter Tryz.func178,Tryz.ntmps178
   go_wp2_with first
    | (go_at_call 179;refine(CC.out _ (ZM W a b 0 0)).mono ?_;rintro e w0 ⟨rfl,hw1⟩;replace hw1:=hw1.symm;subst hw1)
    | (go_at_call 158;refine(HS.out _ (ZM W a b 0 0)).mono ?_;rintro e w1 ⟨rfl,hb1⟩
       obtain⟨q1,q2⟩:=YH hb1
       have z0:w1.cell? ⟨W.heap.size+1,0,none⟩=some (.int .i64 0):=Za q2 0
       have z1:w1.cell? ⟨W.heap.size+1,1,none⟩=some (.int .i64 0):=Za q2 1
       have f0:=Zd q2 0
       have f1:=Zd q2 1
       have hlw:=Zc q2
       have HB:=hid ((ZM W a b 0 0).trans (hb1.mono (ZM W a b 0 0).size))
       clear q1 q2 hb1)
   refine bodyPost_ret (v:=.agg #[.int .i64 r0,.int .i64 r1]) (by simp[results,Tryz.results178,go_sem,z0,z1,f0,f1,hlw]) rfl ?_
   exact⟨rfl,(HB.out.setCell (p:=⟨W.heap.size+1,0,none⟩) (Nat.le_succ _) _).setCell (p:=⟨W.heap.size+1,1,none⟩) (Nat.le_succ _) _⟩
end
section
open Go.RowKit Go.Lib
theorem YC.keeps {w W:World} {n o d:Int} {x y z m:Nat} {G:Nat→Prop} (h:YC w n o d x y z) (hm:m≤x∧m≤y∧m≤z) (hk:Zb G w W) (hG:∀ b,m≤b→¬ G b):YC W n o d x y z :=
 ⟨hk.cell h.h0 (hG _ hm.1),hk.cell h.h1 (hG _ hm.2.1),hk.cell h.h2 (hG _ hm.2.2),h.d0,h.d1⟩
theorem YC.move {w:World} {n o d:Int} {x y z m:Nat} (h:YC w n o d x y z) (hm:m≤x∧m≤y∧m≤z):ZR m w (ZP x y z) (Ze n o d) :=
 ⟨_,_,rfl,enters_of Tryz.func158 (by kernel_rfl) rfl,fun G W hk hG a b hb0 hb=>(h.keeps hm hk hG).runs (Below.refl _ _) hb0 hb⟩
theorem ZR.keeps {w W:World} {m:Nat} {mv:Value} {f:Mvf} {G:Nat→Prop} (h:ZR m w mv f) (hk:Zb G w W) (hG:∀ b,m≤b→¬ G b):ZR m W mv f:=by
 obtain⟨gf,lb,e,he,hr⟩:=h.runs
 refine⟨gf,lb,e,he,fun G2 W2 hk2 hG2=>hr (fun b=>b<m) W2 ?_ (fun b hb e=>by omega)⟩
 refine(hk.mono (fun k _ e=>?_)).trans (hk2.mono (fun k _ e=>?_))
 · rcases Nat.lt_or_ge k m with h|h
   · exact h
   · exact absurd e (hG k h)
 · rcases Nat.lt_or_ge k m with h|h
   · exact .inl h
   · exact absurd e (hG2 k h)
theorem ZaX (n o d:Int) (hd0:-100≤d) (hd:d≤100) (w:World):Calls Tryz.prog 109 #[.int .i64 n,.int .i64 o,.int .i64 d] w fun e w'=>∃ x y z,e=.returned (ZP x y z)∧Below w.heap.size w w'∧YC w' n o d x y z∧w.heap.size≤x∧w.heap.size≤y∧w.heap.size≤z:=by
 go_enter Tryz.func109,Tryz.ntmps109
 go_wp2
 go_ret
 refine⟨w.heap.size,w.heap.size+1,w.heap.size+1+1,rfl,by go_grown,?_,Nat.le_refl _,by omega,by omega⟩
 have a0:((((w.alloc (.cells #[.int .i64 n] 3)).alloc (.cells #[.int .i64 o] 3)).alloc (.cells #[.int .i64 d] 3))).heap[w.heap.size]?=some (.cells #[.int .i64 n] 3 (0,0)):=by
  rw[Below.heap_alloc _ _ _ (by simp only[World.size_alloc];omega),Below.heap_alloc _ _ _ (by simp),heap_alloc_new]
 have a1:((((w.alloc (.cells #[.int .i64 n] 3)).alloc (.cells #[.int .i64 o] 3)).alloc (.cells #[.int .i64 d] 3))).heap[w.heap.size+1]?=some (.cells #[.int .i64 o] 3 (0,0)):=by
  rw[Below.heap_alloc _ _ _ (by simp)]
  have:=heap_alloc_new (w.alloc (.cells #[.int .i64 n] 3)) (.cells #[.int .i64 o] 3)
  simpa using this
 have a2:((((w.alloc (.cells #[.int .i64 n] 3)).alloc (.cells #[.int .i64 o] 3)).alloc (.cells #[.int .i64 d] 3))).heap[w.heap.size+1+1]?=some (.cells #[.int .i64 d] 3 (0,0)):=by
  have:=heap_alloc_new ((w.alloc (.cells #[.int .i64 n] 3)).alloc (.cells #[.int .i64 o] 3)) (.cells #[.int .i64 d] 3)
  simpa using this
 exact⟨Za a0 0,Za a1 0,Za a2 0,hd0,hd⟩
theorem ZfP (l:List Nat) (a:Option Addr) (c:Nat) (p q n o d:Int) (x y z m:Nat) (w:World) (hrow:w.ownsRow 0 3 1 (.slice a l.length c) l.length (Zg l)) (hrm:∀ b,(Value.slice a l.length c).ownBlock=some b→m≤b) (hne:l≠[]) (hl:l.length < lots) (hS:YC w n o d x y z) (hm:m≤x∧m≤y∧m≤z) (hmw:m≤w.heap.size) :
 Calls Tryz.prog 151 #[.slice a l.length c,.agg #[.int .i64 p,.int .i64 q],ZP x y z] w fun e w'=>∃ bs,e=.returned (.func (.func 178) #[] bs)∧Below w.heap.size w w'∧ZR m w' (.func (.func 178) #[] bs) (Zz l p q (Ze n o d)):=by
 have H:=hid (And.intro hrow (And.intro hrm (And.intro hS hm)))
 clear hrow hrm hS hm
 go_enter Tryz.func151,Tryz.ntmps151
 go_wp2
 go_ret
 obtain⟨hrow,hrm,hS,hm⟩:=H.out
 have hB:Below w.heap.size w (((w.alloc (.cells #[.slice a l.length c] 24)).alloc (.cells #[.int .i64 p,.int .i64 q] 37)).alloc (.cells #[ZP x y z] 110)):=(((Below.refl _ w).alloc (Nat.le_refl _) _).alloc (by simp) _).alloc (by simp only[World.size_alloc];omega) _
 refine⟨_,rfl,by first|exact hB|go_grown,?_⟩
 have a0:(((w.alloc (.cells #[.slice a l.length c] 24)).alloc (.cells #[.int .i64 p,.int .i64 q] 37)).alloc (.cells #[ZP x y z] 110)).heap[w.heap.size]?=some (.cells #[.slice a l.length c] 24 (0,0)):=by
  rw[Below.heap_alloc _ _ _ (by simp only[World.size_alloc];omega),Below.heap_alloc _ _ _ (by simp),heap_alloc_new]
 have a1:(((w.alloc (.cells #[.slice a l.length c] 24)).alloc (.cells #[.int .i64 p,.int .i64 q] 37)).alloc (.cells #[ZP x y z] 110)).heap[w.heap.size+1]?=some (.cells #[.int .i64 p,.int .i64 q] 37 (0,0)):=by
  rw[Below.heap_alloc _ _ _ (by simp)]
  have:=heap_alloc_new (w.alloc (.cells #[.slice a l.length c] 24)) (.cells #[.int .i64 p,.int .i64 q] 37)
  simpa using this
 have a2:(((w.alloc (.cells #[.slice a l.length c] 24)).alloc (.cells #[.int .i64 p,.int .i64 q] 37)).alloc (.cells #[ZP x y z] 110)).heap[w.heap.size+1+1]?=some (.cells #[ZP x y z] 110 (0,0)):=by
  have:=heap_alloc_new ((w.alloc (.cells #[.slice a l.length c] 24)).alloc (.cells #[.int .i64 p,.int .i64 q] 37)) (.cells #[ZP x y z] 110)
  simpa using this
 have hk0:=Zb.of_below (F:=fun _=>False) hB
 refine⟨_,_,rfl,enters_of Tryz.func178 (by kernel_rfl) rfl,fun G W hk hG e f hb0 hb=>?_⟩
 exact gather1 l p q n o d e f w.heap.size (w.heap.size+1) (w.heap.size+1+1) x y z (.slice a l.length c) W (hk.row (hk0.row hrow (fun _ _ e=>e)) (fun b e=>hG b (hrm b e))) hne hl
  (hk.cell (Za a0 0) (hG _ hmw)) (hk.cell (Za a1 0) (hG _ (by show m≤w.heap.size+1;omega))) (hk.cell (Za a1 1) (hG _ (by show m≤w.heap.size+1;omega))) (hk.cell (Za a2 0) (hG _ (by show m≤w.heap.size+1+1;omega)))
  ((hS.keeps hm hk0 (fun _ _ e=>e)).keeps hm hk hG) hb0 hb
theorem carry_at (n o fr p i d:Int) (x y z m:Nat) (w:World) (hS:YC w p i d x y z) (hm:m≤x∧m≤y∧m≤z) (hmw:m≤w.heap.size) (ho0:0≤o) (ho:o≤100) :
 Calls Tryz.prog 108 #[.int .i64 n,.int .i64 o,.int .i64 fr,ZP x y z] w fun e w'=>∃ bs,e=.returned (.func (.func 157) #[] bs)∧Below w.heap.size w w'∧ZR m w' (.func (.func 157) #[] bs) (Zp n o fr (Ze p i d)):=by
 have H:=hid (And.intro hS hm)
 clear hS hm
 go_enter Tryz.func108,Tryz.ntmps108
 go_wp2
 go_ret
 obtain⟨hS,hm⟩:=H.out
 have hB:Below w.heap.size w ((((w.alloc (.cells #[.int .i64 n] 3)).alloc (.cells #[.int .i64 o] 3)).alloc (.cells #[.int .i64 fr] 3)).alloc (.cells #[ZP x y z] 110)):=((((Below.refl _ w).alloc (Nat.le_refl _) _).alloc (by simp) _).alloc (by simp only[World.size_alloc];omega) _).alloc (by simp only[World.size_alloc];omega) _
 refine⟨_,rfl,by first|exact hB|go_grown,?_⟩
 have a0:((((w.alloc (.cells #[.int .i64 n] 3)).alloc (.cells #[.int .i64 o] 3)).alloc (.cells #[.int .i64 fr] 3)).alloc (.cells #[ZP x y z] 110)).heap[w.heap.size]?=some (.cells #[.int .i64 n] 3 (0,0)):=by
  rw[Below.heap_alloc _ _ _ (by simp only[World.size_alloc];omega),Below.heap_alloc _ _ _ (by simp only[World.size_alloc];omega),Below.heap_alloc _ _ _ (by simp),heap_alloc_new]
 have a1:((((w.alloc (.cells #[.int .i64 n] 3)).alloc (.cells #[.int .i64 o] 3)).alloc (.cells #[.int .i64 fr] 3)).alloc (.cells #[ZP x y z] 110)).heap[w.heap.size+1]?=some (.cells #[.int .i64 o] 3 (0,0)):=by
  rw[Below.heap_alloc _ _ _ (by simp only[World.size_alloc];omega),Below.heap_alloc _ _ _ (by simp)]
  have:=heap_alloc_new (w.alloc (.cells #[.int .i64 n] 3)) (.cells #[.int .i64 o] 3)
  simpa using this
 have a2:((((w.alloc (.cells #[.int .i64 n] 3)).alloc (.cells #[.int .i64 o] 3)).alloc (.cells #[.int .i64 fr] 3)).alloc (.cells #[ZP x y z] 110)).heap[w.heap.size+1+1]?=some (.cells #[.int .i64 fr] 3 (0,0)):=by
  rw[Below.heap_alloc _ _ _ (by simp)]
  have:=heap_alloc_new ((w.alloc (.cells #[.int .i64 n] 3)).alloc (.cells #[.int .i64 o] 3)) (.cells #[.int .i64 fr] 3)
  simpa using this
 have a3:((((w.alloc (.cells #[.int .i64 n] 3)).alloc (.cells #[.int .i64 o] 3)).alloc (.cells #[.int .i64 fr] 3)).alloc (.cells #[ZP x y z] 110)).heap[w.heap.size+1+1+1]?=some (.cells #[ZP x y z] 110 (0,0)):=by
  have:=heap_alloc_new (((w.alloc (.cells #[.int .i64 n] 3)).alloc (.cells #[.int .i64 o] 3)).alloc (.cells #[.int .i64 fr] 3)) (.cells #[ZP x y z] 110)
  simpa using this
 have hk0:=Zb.of_below (F:=fun _=>False) hB
 refine⟨_,_,rfl,enters_of Tryz.func157 (by kernel_rfl) rfl,fun G W hk hG e f hb0 hb=>?_⟩
 exact carry1 n o fr p i d e f w.heap.size (w.heap.size+1) (w.heap.size+1+1) (w.heap.size+1+1+1) x y z W
  (hk.cell (Za a0 0) (hG _ hmw)) (hk.cell (Za a1 0) (hG _ (by show m≤w.heap.size+1;omega))) (hk.cell (Za a2 0) (hG _ (by show m≤w.heap.size+1+1;omega))) (hk.cell (Za a3 0) (hG _ (by show m≤w.heap.size+1+1+1;omega)))
  ((hS.keeps hm hk0 (fun _ _ e=>e)).keeps hm hk hG) ho0 ho hb0 hb
theorem Zd7 (n o t g:Int) (w:World) (ho0:0≤o) (ho:o≤30) (ht0:0≤t) (ht:t≤30) (hg0:0≤g) (hg:g≤30):Calls Tryz.prog 104 #[.int .i64 n,.int .i64 o,.int .i64 t,.int .i64 g] w fun e w'=>∃ bs,e=.returned (.func (.func 154) #[] bs)∧Below w.heap.size w w'∧ZR w.heap.size w' (.func (.func 154) #[] bs) (Zl n o t g):=by
 obtain⟨W3,hW3⟩:∃ W3,((w.alloc (.cells #[.int .i64 n] 3)).alloc (.cells #[.int .i64 o] 3)).alloc (.cells #[.int .i64 t] 3)=W3:=⟨_,rfl⟩
 have h0:Below w.heap.size w W3:=by rw[← hW3];exact(((Below.refl _ w).alloc (Nat.le_refl _) _).alloc (by simp) _).alloc (by simp only[World.size_alloc];omega) _
 have a0:W3.heap[w.heap.size]?=some (.cells #[.int .i64 n] 3 (0,0)):=by
  rw[← hW3,Below.heap_alloc _ _ _ (by simp only[World.size_alloc];omega),Below.heap_alloc _ _ _ (by simp),heap_alloc_new]
 have a1:W3.heap[w.heap.size+1]?=some (.cells #[.int .i64 o] 3 (0,0)):=by
  rw[← hW3,Below.heap_alloc _ _ _ (by simp)]
  have:=heap_alloc_new (w.alloc (.cells #[.int .i64 n] 3)) (.cells #[.int .i64 o] 3)
  simpa using this
 have a2:W3.heap[w.heap.size+1+1]?=some (.cells #[.int .i64 t] 3 (0,0)):=by
  rw[← hW3]
  have:=heap_alloc_new ((w.alloc (.cells #[.int .i64 n] 3)).alloc (.cells #[.int .i64 o] 3)) (.cells #[.int .i64 t] 3)
  simpa using this
 have H0:=hid (And.intro h0 (And.intro a0 (And.intro a1 a2)))
 have C:=hid (ZaX n (o+t) (g - t) (by omega) (by omega) W3)
 have q1:IntKind.i64.wrap (o+t)=o+t:=by rw[IntKind.wrap_i64];omega
 have q2:IntKind.i64.wrap (g - t)=g - t:=by rw[IntKind.wrap_i64];omega
 rw[← hW3] at C
 have HW3:=hid hW3
 clear h0 a0 a1 a2 hW3
 go_enter Tryz.func104,Tryz.ntmps104
 go_wp2_with (go_at_call 109;refine C.out.mono ?_;rintro e w1 ⟨x,y,z,rfl,hb,hS,hx,hy,hz⟩
              have H1:=hid (And.intro hb (And.intro hS (And.intro hx (And.intro hy hz))))
              clear hb hS hx hy hz
              have st:(store ⟨w1.heap.size,0,none⟩ (ZP x y z)).run Tryz.prog (w1.alloc (.cells #[.nilFunc] 110))=.ok () ((w1.alloc (.cells #[.nilFunc] 110)).setCell ⟨w1.heap.size,0,none⟩ (ZP x y z)):=by
               rw[run_store Tryz.prog _ _ _ _ (by rfl)];simp)
 go_ret
 rw[HW3.out] at H1
 obtain⟨hb,hS,hx,hy,hz⟩:=H1.out
 obtain⟨h0,a0,a1,a2⟩:=H0.out
 have hs3:=h0.size
 have l2:=Zc a2
 have hs1:=hb.size
 have hB1:Below w.heap.size w w1:=h0.trans (hb.mono hs3)
 have hB:Below w.heap.size w (w1.alloc (.cells #[ZP x y z] 110)):=hB1.alloc (by omega) _
 refine⟨_,rfl,by first|exact hB|go_grown,?_⟩
 have b0:(w1.alloc (.cells #[ZP x y z] 110)).heap[w.heap.size]?=_:=(Below.heap_alloc _ _ _ (by omega)).trans ((hb.block _ (Zc a0)).trans a0)
 have b1:(w1.alloc (.cells #[ZP x y z] 110)).heap[w.heap.size+1]?=_:=(Below.heap_alloc _ _ _ (by omega)).trans ((hb.block _ (Zc a1)).trans a1)
 have b2:(w1.alloc (.cells #[ZP x y z] 110)).heap[w.heap.size+1+1]?=_:=(Below.heap_alloc _ _ _ (by omega)).trans ((hb.block _ (Zc a2)).trans a2)
 have b3:(w1.alloc (.cells #[ZP x y z] 110)).heap[w1.heap.size]?=_:=heap_alloc_new w1 (.cells #[ZP x y z] 110)
 have hm:w.heap.size≤x∧w.heap.size≤y∧w.heap.size≤z:=⟨by omega,by omega,by omega⟩
 have hk0:Zb (fun _=>False) w1 (w1.alloc (.cells #[ZP x y z] 110)):=(Zb.refl _ w1).alloc _
 have hS2:=hS.keeps hm hk0 (fun _ _ e=>e)
 refine⟨_,_,rfl,enters_of Tryz.func154 (by kernel_rfl) rfl,fun G W hk hG e f hb0 hb'=>?_⟩
 exact resize1 n o t g e f w.heap.size (w.heap.size+1) (w.heap.size+1+1) w1.heap.size x y z W
  (hk.cell (Za b0 0) (hG _ (Nat.le_refl _))) (hk.cell (Za b1 0) (hG _ (by show w.heap.size≤w.heap.size+1;omega))) (hk.cell (Za b2 0) (hG _ (by show w.heap.size≤w.heap.size+1+1;omega))) (hk.cell (Za b3 0) (hG _ (by show w.heap.size≤w1.heap.size;omega)))
  (hS2.keeps hm hk hG) ho0 (by omega) ht0 (by omega) hb0 hb'
def TMv (f:Mvf) (F:Nat→Prop) (w:World) (bf:Nat) (s':List Nd) (e:Ending) (w':World):Prop:=∃ mv m,e=.returned (.tuple #[mv,.nilIface])∧Zb F w w'∧w.heap.size≤m∧m≤w'.heap.size∧PFor w' (fun b=>F b∨(w.heap.size≤b∧b < m)) bf s'∧ZR m w' mv f
theorem TMv.move {f:Mvf} {F:Nat→Prop} {w:World} {bf:Nat} {s':List Nd} {e:Ending} {w':World} (h:TMv f F w bf s' e w'):TMove (fun _ _=>True) F w bf s' e w':=by
 obtain⟨mv,m,rfl,hk,h1,h2,hf,hm⟩:=h
 exact⟨mv,rfl,hk,hf.wider (fun b h=>h.elim .inl (fun h=>.inr h.1)),trivial⟩
end
section
open Go.RowKit
theorem ZfZ (l:List Nat) (m i:Nat) (hm:l[m]?=some i) (hno:i∉l.take m):Lib.idxOf ((l.map Int.ofNat).take l.length) (i:Int)=(m:Int):=by
 have hml:=(List.getElem?_eq_some_iff.1 hm).1
 have hmi:l[m]=i:=(List.getElem?_eq_some_iff.1 hm).2
 have h:=Lib.idxOf_hit (l.map Int.ofNat) l.length m (i:Int) hml (by simp) (by simp[List.getD,hm]) (by
  intro j hj e
  have hjl:j<l.length:=by omega
  have e2:l[j]=i:=by
   have:(l.map Int.ofNat).getD j 0=(l[j]:Int):=by simp[List.getD,hjl]
   rw[this] at e
   exact Int.ofNat.inj e
  exact hno (List.mem_take_iff_getElem.2 ⟨j,by omega,e2⟩))
 exact h
theorem ZcD (w:World) (q:Nat) (a:Addr):(w.drewN q).cell? a=w.cell? a:=rfl
section
variable {w:World} {F:Nat→Prop} {bf:Nat} {s:List Nd}
theorem ZiE (hD:PFor w F bf s) (n:Int) (h:isB s n=false):Calls Tryz.prog 97 #[ptr bf,.int .i64 n] w (ZV F w bf s (.tuple #[.nilFunc,ZO n 1])):=by
 have HD:=hid hD
 obtain⟨bn,cap,pn,hD⟩:=hD
 have C:=hid (Jd hD n h)
 clear hD h
 go_enter Tryz.func97,Tryz.ntmps97
 go_wp2_with (go_at_call 87;refine C.out.mono ?_;rintro e w1 ⟨rfl,rfl⟩)
 go_ret2
 exact⟨rfl,Zb.refl _ _,HD.out.wider (fun b h=>.inl h)⟩
theorem ZiF (hD:PFor w F bf s) (i:Nat) (x:Nd) (hx:s[i]?=some x) (hp:x.p = -1) (hbig:s.length < lots):Calls Tryz.prog 97 #[ptr bf,.int .i64 i] w (ZV F w bf s (.tuple #[.nilFunc,ZO i 4])):=by
 have HD:=hid hD
 obtain⟨bn,cap,pn,hD⟩:=hD
 have hi:i<s.length:=(List.getElem?_eq_some_iff.1 hx).1
 have C:=hid (Z4 hD i (ZC (by omega)))
 have h0:=hD.nodesCell
 obtain⟨r,hr,ho,c0,c1,c2,c3⟩:=hD.look hx
 rw[hp] at c0
 clear hD c1 c2 c3 hr ho hx hp hbig
 go_enter Tryz.func97,Tryz.ntmps97
 go_wp2_with (go_at_call 87;refine C.out.mono ?_;rintro e w1 ⟨rfl,rfl⟩)
 go_ret2
 exact⟨rfl,Zb.refl _ _,HD.out.wider (fun b h=>.inl h)⟩
theorem intsV_eq (l:List Nat):(l.map Int.ofNat).map (Value.int .i64)=Zg l:=by
 simp[Zg]
theorem Zh.deleted {bn cap:Nat} {pn:List PN} (h:Zh w F bf bn cap pn s) {j g c m:Nat} {r:PN} {y:Nd} (hr:pn[j]?=some r) (hy:s[j]?=some y) (hv:r.kv=.slice (some ⟨g,0,none⟩) y.ks.length c) (hml:m < y.ks.length) (q:Nat) :
 Zh ((w.drewN q).setCells g 0 ((((y.ks.map Int.ofNat).take y.ks.length).take m++((y.ks.map Int.ofNat).take y.ks.length).drop (m+1)++List.replicate (m+1 - m) 0).map (Value.int .i64))) F bf bn cap pn (s.set j { y with ks:=y.ks.take m++y.ks.drop (m+1)++[0] }) ∧
  Zb (fun b=>b=g) w ((w.drewN q).setCells g 0 ((((y.ks.map Int.ofNat).take y.ks.length).take m++((y.ks.map Int.ofNat).take y.ks.length).drop (m+1)++List.replicate (m+1 - m) 0).map (Value.int .i64))):=by
 have e:((((y.ks.map Int.ofNat).take y.ks.length).take m++((y.ks.map Int.ofNat).take y.ks.length).drop (m+1)++List.replicate (m+1 - m) 0).map (Value.int .i64))=Zg (y.ks.take m++y.ks.drop (m+1)++[0]):=by
  have e1:m+1 - m=1:=by omega
  have e2:(y.ks.map Int.ofNat).take y.ks.length=y.ks.map Int.ofNat:=List.take_of_length_le (by simp)
  rw[e1,e2,← List.map_take,← List.map_drop,← intsV_eq]
  simp
 rw[e]
 have ho:=h.ok j r y hr hy
 have hk0:Zb (fun b=>b=g) w (w.drewN q):=⟨rfl,rfl,rfl,Nat.le_refl _,fun _ _ _=>rfl⟩
 have hk:Zb (fun b=>b=g) w ((w.drewN q).setCells g 0 (Zg (y.ks.take m++y.ks.drop (m+1)++[0]))):=Xv g _ 0 _ hk0 rfl
 refine⟨h.newRow hr hy (by rw[hv];rfl) hk ?_,hk⟩
 obtain⟨h1,h2⟩:=ho.kids
 rw[hv] at h2 ⊢
 rcases h2 with ⟨h3,_⟩|⟨g',cap',cur,hv',hg,hh,hn,hc,hs,ht⟩
 · cases h3
 · cases hv'
   have hlen:(y.ks.take m++y.ks.drop (m+1)++[0]).length=y.ks.length:=by simp;omega
   obtain⟨cur',k1,k2,k3⟩:=Xu g 3 (Zg (y.ks.take m++y.ks.drop (m+1)++[0])) 0 (w.drewN q) cur hh (by rw[intsV_length,hlen];omega)
   refine⟨by rw[intsV_length];omega,.inr ⟨g,c,cur',by rw[hlen],hg,k1,by rw[hlen];exact hn,hc,by omega,?_⟩⟩
   rw[k3]
   simp only[List.take_zero,List.nil_append,Nat.mul_one]
   rw[List.take_append_of_le_length (by simp),List.take_of_length_le (by simp)]
theorem Zh.cellsThere {bn cap:Nat} {pn:List PN} (h:Zh w F bf bn cap pn s) {i k:Nat} (hi:i < s.length) (hk:k < 4):∃ v,w.cell? ⟨bn,i * 4+k,none⟩=some v∧w.frozen? ⟨bn,i * 4+k,none⟩=false:=by
 have hip:i<pn.length:=by rw[h.len];exact hi
 have h1:=h.cellAt (List.getElem?_eq_getElem hip) k hk
 refine⟨(pn[i].cells)[k]'(by simpa[PN.cells] using hk),by rw[h1];exact List.getElem?_eq_getElem _,?_⟩
 obtain⟨_,h2⟩:=h.nodes
 rcases h2 with ⟨h3,_⟩|⟨g,c,cur,hv,_,hh,_⟩
 · cases h3
 · cases hv
   exact Zd hh _
theorem Zh.afterDelete {bn cap:Nat} {pn:List PN} (h:Zh w F bf bn cap pn s) {i j g c m:Nat} {r:PN} {x y:Nd} (hr:pn[j]?=some r) (hv:r.kv=.slice (some ⟨g,0,none⟩) y.ks.length c) (hx:s[i]?=some x) (hy:s[j]?=some y) (ha:F g∧g≠bf∧g≠bn) (hml:m < y.ks.length) (hij:i≠j) {w2:World}
 (h2:Zh w2 F bf bn cap pn (s.set j { y with ks:=y.ks.take m++y.ks.drop (m+1)++[0] })) (hk:Zb (fun b=>b=g) w w2) :
 ZV F w bf ((s.set j { y with ks:=y.ks.take m++y.ks.drop (m+1) }).set i { x with p:=-1 }) .nilIface (.returned .nilIface) ((w2.setCell ⟨bn,j*4+2,none⟩ (.slice (some ⟨g,0,none⟩) (y.ks.length - (m+1 - m)) c)).setCell ⟨bn,i*4,none⟩ (.int .i64 (-1))):=by
 have hjl:j<s.length:=(List.getElem?_eq_some_iff.1 hy).1
 have hlen:(y.ks.take m++y.ks.drop (m+1)).length+1=y.ks.length:=by simp;omega
 have hy2:(s.set j { y with ks:=y.ks.take m++y.ks.drop (m+1)++[0] })[j]?=some { y with ks:=y.ks.take m++y.ks.drop (m+1)++[0] }:=by simp[hjl]
 have ho:=h2.ok j r _ hr hy2
 have hk0:=ho.kids
 simp only[hv] at hk0
 have hrow:w2.ownsRow 0 3 1 (.slice (some ⟨g,0,none⟩) (y.ks.length - (m+1 - m)) c) (y.ks.take m++y.ks.drop (m+1)).length (Zg (y.ks.take m++y.ks.drop (m+1))):=by
  have e1:y.ks.length - (m+1 - m)=(y.ks.take m++y.ks.drop (m+1)).length:=by omega
  rw[e1]
  refine ownsRow_pop (last:=[.int .i64 0]) (by simp) ?_
  have e2:Zg (y.ks.take m++y.ks.drop (m+1)++[0])=Zg (y.ks.take m++y.ks.drop (m+1))++[.int .i64 0]:=by simp[Zg]
  have e3:(y.ks.take m++y.ks.drop (m+1)++[0]).length=(y.ks.take m++y.ks.drop (m+1)).length+1:=by simp;omega
  rw[e2,e3,← hlen] at hk0
  exact hk0
 have h3:=h2.setNode (r':={ r with kv:=.slice (some ⟨g,0,none⟩) (y.ks.length - (m+1 - m)) c }) (x':={ y with ks:=y.ks.take m++y.ks.drop (m+1) }) hr hy2 2 (by omega) _ rfl ⟨ho.t,ho.p,ho.ch,hrow,fun b e=>by cases e;exact ha⟩
  (fun k r1 hk1 h1 b e=>by cases e;exact h.sep j k r r1 (fun e=>hk1 e.symm) hr h1 g (by rw[hv];rfl))
 rw[List.set_set] at h3
 have hx3:(s.set j { y with ks:=y.ks.take m++y.ks.drop (m+1) })[i]?=some x:=by rw[List.getElem?_set_ne (fun e=>hij e.symm)];exact hx
 obtain⟨pn4,h4⟩:=h3.newPar (-1) hx3
 refine⟨rfl,?_,bn,cap,pn4,h4.wider (fun b hb=>.inl hb)⟩
 exact((hk.mono (fun k _ e=>by cases e;exact ha.1)).setCell (p:=⟨bn,j*4+2,none⟩) (.inl h.Fn) _).setCell (p:=⟨bn,i*4,none⟩) (.inl h.Fn) _
theorem Zcd {bn cap:Nat} {pn:List PN} (hD:Zh w F bf bn cap pn s) (i j m:Nat) (x y:Nd) (hx:s[i]?=some x) (hj:x.p=j) (hy:s[j]?=some y) (hm:y.ks[m]?=some i) (hno:i∉y.ks.take m) (hbig:s.length < lots) (hkb:y.ks.length < lots) :
 Calls Tryz.prog 106 #[ptr bf,.int .i64 i] w fun e w'=>e=.returned (.int .i64 m)∧Drawn w w':=by
 have hi:i<s.length:=(List.getElem?_eq_some_iff.1 hx).1
 have hjl:j<s.length:=(List.getElem?_eq_some_iff.1 hy).1
 have hml:m<y.ks.length:=(List.getElem?_eq_some_iff.1 hm).1
 have h0:=hD.nodesCell
 obtain⟨r,hr,ho,c0,c1,c2,c3⟩:=hD.look hx
 obtain⟨r2,hr2,ho2,d0,d1,d2,d3⟩:=hD.look hy
 obtain⟨g,cp,cur,hv,hh,hn,hc,hcs,ht,hcell,hfr⟩:=ZaT ho2.kids (by intro e;rw[e] at hml;simp at hml)
 rw[hv] at d2
 rw[hj] at c0
 have C2:=hid (fun q=>Tryz.slices_Index_int g 0 y.ks.length cp (y.ks.map Int.ofNat) (i:Int) (w.drewN q) (by simp) (by unfold lots at hkb;omega) hcell)
 rw[ZfZ y.ks m i hm hno] at C2
 have hlt:=hD.lt
 clear hD c1 c2 c3 d0 d1 d3 hr ho ho2 hr2 hcell hfr hh hc hcs ht hv hno hm hx hy hbig hkb
 go_enter Tryz.func106,Tryz.ntmps106
 go_wp2
 go_quiet ((go_at_call 155;exact Calls.quiet_of_same (C2.out _)))
 go_wp2
 go_ret
 exact⟨rfl,nq,rfl⟩
theorem Zca {bn cap:Nat} {pn:List PN} (hD:Zh w F bf bn cap pn s) (i j m:Nat) (x y:Nd) (hx:s[i]?=some x) (hj:x.p=j) (hy:s[j]?=some y) (hm:y.ks[m]?=some i) (hno:i∉y.ks.take m) (hbig:s.length < lots) (hkb:y.ks.length < lots) :
 Calls Tryz.prog 149 #[ptr bf,.int .i64 i] w fun e w'=>e=.returned (.agg #[.int .i64 j,.int .i64 m])∧Below w.heap.size w w':=by
 have hi:i<s.length:=(List.getElem?_eq_some_iff.1 hx).1
 have h0:=hD.nodesCell
 obtain⟨r,hr,ho,c0,c1,c2,c3⟩:=hD.look hx
 rw[hj] at c0
 have C2:=hid (fun W (hB:Below w.heap.size w W)=>Zcd (hD.below hB) i j m x y hx hj hy hm hno hbig hkb)
 have hlt:=hD.lt
 have HB1:=hid (show Below w.heap.size w (w.alloc (.cells #[.int .i64 0,.int .i64 0] 37)) from (Below.refl _ w).alloc (Nat.le_refl _) _)
 have hnn:¬ bn=w.heap.size:=by omega
 have hnf:¬ bf=w.heap.size:=by omega
 clear hD c1 c2 c3 hr ho hno hm hx hy hbig hkb
 go_enter Tryz.func149,Tryz.ntmps149
 go_wp2
 go_region_with ((
  go_at_call 106
  refine(C2.out _ ?_).mono ?_
  · first | exact Zj HB1.out _|exact HB1.out.drew
  rintro e w1 ⟨rfl,q0,rfl⟩))
 all_goals
  go_wp2
  refine bodyPost_ret (v:=.agg #[.int .i64 (j:Int),.int .i64 (m:Int)]) (by simp[results,Tryz.results149,go_sem]) rfl ?_
  refine⟨rfl,?_⟩
  go_grown
  all_goals first|exact Zj (HB1.out.drew) _|exact Zj (Zj HB1.out _) _|exact Zj HB1.out _|exact HB1.out.drew
theorem ZeA (hD:PFor w F bf s) (i j m:Nat) (x y:Nd) (hx:s[i]?=some x) (hj:x.p=j) (hy:s[j]?=some y) (hm:y.ks[m]?=some i) (hno:i∉y.ks.take m) (hij:i≠j) (hbig:s.length < lots) (hkb:y.ks.length < lots) (wf2:WF ((s.set j { y with ks:=y.ks.take m++y.ks.drop (m+1) }).set i { x with p:=-1 })) {h2:Nat→Nat} {H2:Nat} (u2:Up ((s.set j { y with ks:=y.ks.take m++y.ks.drop (m+1) }).set i { x with p:=-1 }) h2 H2) :
 Calls Tryz.prog 97 #[ptr bf,.int .i64 i] w (TMv (Zz (allF ((s.set j { y with ks:=y.ks.take m++y.ks.drop (m+1) }).set i { x with p:=-1 }) (h2 i+1) i) j m (Ze j m (-1))) F w bf ((s.set j { y with ks:=y.ks.take m++y.ks.drop (m+1) }).set i { x with p:=-1 })):=by
 obtain⟨bn,cap,pn,hD⟩:=hD
 have hi:i<s.length:=(List.getElem?_eq_some_iff.1 hx).1
 have hjl:j<s.length:=(List.getElem?_eq_some_iff.1 hy).1
 have hml:m<y.ks.length:=(List.getElem?_eq_some_iff.1 hm).1
 have C:=hid (Z4 hD i (ZC (by omega)))
 have h0:=hD.nodesCell
 obtain⟨r,hr,ho,c0,c1,c2,c3⟩:=hD.look hx
 obtain⟨r2,hr2,ho2,d0,d1,d2,d3⟩:=hD.look hy
 obtain⟨g,cp,cur,hv,hh,hn,hc,hcs,ht,hcell,hfr⟩:=ZaT ho2.kids (by intro e;rw[e] at hml;simp at hml)
 rw[hv] at d2
 rw[hj] at c0
 have hneg:((j:Int) == -1)=false:=by simp
 have C2:=hid (Zca hD i j m x y hx hj hy hm hno hbig hkb)
 have C3:=hid (fun W (hB:Below w.heap.size w W)=>Tryz.slices_Delete_int_cells g 0 y.ks.length cp m (m+1) (y.ks.map Int.ofNat) W (by simp) hn (by unfold maxLen at hc;omega) (by omega) (by omega) (fun k hk=>(hB.cell (p:=⟨g,0+k,none⟩) (Zc hh)).trans (hcell k hk)) (fun k hk=>Zd ((hB.block g (Zc hh)).trans hh) _))
 rw[show ((m+1:Nat):Int)=(m:Int)+1 from by omega] at C3
 have HDEL:=hid (fun W (hB:Below w.heap.size w W) q=>(hD.below hB).deleted hr2 hy hv hml q)
 have hgl:g<w.heap.size:=Zc hh
 have hapart:=(ho2.apart g (by rw[hv];rfl))
 have hlt:=hD.lt
 have hbfn:¬ bf=bn:=hD.ne
 have hgn:¬ bn=g:=fun e=>hapart.2.2 e.symm
 have hgf:¬ bf=g:=fun e=>hapart.2.1 e.symm
 have HALL:=hid (And.intro hr2 (And.intro hv (And.intro hx (And.intro hy (And.intro hapart hD)))))
 have hm64:(m:Int)+1≤9223372036854775807:=by unfold lots at hkb;omega
 have hwm:IntKind.i64.wrap ((m:Int)+1)=(m:Int)+1:=by rw[IntKind.wrap_i64];omega
 have WF2:=hid wf2
 clear wf2
 clear hD c1 c2 c3 d0 d1 d3 hr ho ho2 hr2 hcell hfr hh hc hcs ht hapart hv hno hm hx hy hbig hkb
 go_enter Tryz.func97,Tryz.ntmps97
 go_wp2_with first
  | (go_at_call 87;refine C.out.mono ?_;rintro e w0 ⟨rfl,hw0⟩;replace hw0:=hw0.symm;subst hw0)
  | (go_at_call 149;refine C2.out.mono ?_;rintro e w1 ⟨rfl,hb1⟩
     have h0':=(hb1.cell (p:=⟨bf,0,none⟩) hlt.1).trans h0
     have d2':=(hb1.cell (p:=⟨bn,j*4+2,none⟩) hlt.2).trans d2
     have hz1:=hb1.size
     have HB1:=hid hb1
     have hbA:=hb1.alloc hb1.size (.cells #[.int .i64 (j:Int),.int .i64 (m:Int)] 37)
     have h0A:=(hbA.cell (p:=⟨bf,0,none⟩) hlt.1).trans h0
     have d2A:=(hbA.cell (p:=⟨bn,j*4+2,none⟩) hlt.2).trans d2
     have HBA:=hid hbA.drew
     clear hb1 hbA)
 go_region
 go_wp2
 go_cut [] from 39 to 51 (fun wc=>∃ w2,wc=w2.setCell ⟨bn,j*4+2,none⟩ (.slice (some ⟨g,0,none⟩) (y.ks.length - 1) cp)∧Zh w2 F bf bn cap pn (s.set j { y with ks:=y.ks.take m++y.ks.drop (m+1)++[0] })∧Zb (fun b=>b=g) w w2∧w2.heap[w1.heap.size]?=some (.cells #[.int .i64 (j:Int),.int .i64 (m:Int)] 37 (0,0)))
 case first =>
  go_region_with ((
   go_at_call 150
   refine(C3.out _ HBA.out.drew).mono ?_
   rintro e w2 ⟨rfl,q,hw2⟩
   have hq:=HDEL.out _ HBA.out.drew q
   rw[← hw2] at hq
   obtain⟨hD2,hk2'⟩:=hq
   have hk2:Zb (fun b=>b=g) w w2:=(Zb.of_below HBA.out.drew).trans (hk2'.mono (fun k _ e=>.inl e))
   have hq2:w2.heap[w1.heap.size]?=some (.cells #[.int .i64 (j:Int),.int .i64 (m:Int)] 37 (0,0)):=(hk2'.block w1.heap.size (by simp) (by omega)).trans (heap_alloc_new w1 _)
   obtain⟨v2,f2,f2f⟩:=hD2.cellsThere (i:=j) (k:=2) (by rw[List.length_set];exact hjl) (by omega)
   have HC:=hid (And.intro hD2 (And.intro hk2 hq2))
   clear hw2 hk2' hq2 hD2 hk2))
  all_goals
   go_wp2_with fail
   go_meet
   case rel=>exact⟨w2,by first|rfl|(congr 2;omega)|simp,HC.out.1,HC.out.2.1,HC.out.2.2⟩
 case rest =>
 obtain⟨w2,rfl,hD2,hk2,hq2⟩:=hcut
 have lc0:w2.cell? ⟨w1.heap.size,0,none⟩=some (.int .i64 (j:Int)):=Za hq2 0
 have lc1:w2.cell? ⟨w1.heap.size,1,none⟩=some (.int .i64 (m:Int)):=Za hq2 1
 have hlq:=Zc hq2
 have HQ2:=hid hq2
 have hbw:¬ bn=w1.heap.size:=by omega
 have AFT:=hid (HALL.out.2.2.2.2.2.afterDelete HALL.out.1 HALL.out.2.1 HALL.out.2.2.1 HALL.out.2.2.2.1 HALL.out.2.2.2.2.1 hml hij hD2 hk2)
 have f0:=hD2.nodesCell
 rw[List.length_set] at f0
 obtain⟨v2,f2,f2f⟩:=hD2.cellsThere (i:=j) (k:=2) (by rw[List.length_set];exact hjl) (by omega)
 obtain⟨v3,f3,f3f⟩:=hD2.cellsThere (i:=i) (k:=0) (by rw[List.length_set];exact hi) (by omega)
 rw[Nat.add_zero] at f3 f3f
 clear hD2 hk2 hq2
 go_wp2_with first
  | (go_at_call 90
     have hA:=AFT.out
     have e1:m+1 - m=1:=by omega
     rw[e1] at hA
     obtain⟨_,hkA,bnA,capA,pnA,hfA⟩:=hA
     have AFT2:=hid (And.intro hkA hfA)
     have COL:=hid (Zfj WF2.out u2 hfA (h2 i+1) i (by simpa using hi) (Nat.lt_succ_self _))
     simp only[World.size_setCell] at COL
     clear hkA hfA
     refine(JB bf i _).mono ?_;rintro e w3 ⟨rfl,rfl⟩)
  | (go_at_call 89
     refine COL.out.mono ?_
     rintro e w4 ⟨a4,c4,rfl,hb4,hr4,hg4⟩
     have hq4:=(hb4.block w1.heap.size hlq).trans ((Below.heap_setCell _ _ _ _ (fun e=>hbw e.symm)).trans ((Below.heap_setCell _ _ _ _ (fun e=>hbw e.symm)).trans HQ2.out))
     have lc40:w4.cell? ⟨w1.heap.size,0,none⟩=some (.int .i64 (j:Int)):=Za hq4 0
     have lc41:w4.cell? ⟨w1.heap.size,1,none⟩=some (.int .i64 (m:Int)):=Za hq4 1
     have hlq4:=Zc hq4
     have HQ4:=hid hq4
     have B4:=hid hb4
     have R4:=hid (And.intro hr4 hg4)
     clear hb4 hr4 hg4 hq4)
 go_region_held3 (fun w'=>w'.cell? ⟨w1.heap.size,0,none⟩=some (.int .i64 (j:Int))∧w'.cell? ⟨w1.heap.size,1,none⟩=some (.int .i64 (m:Int))) (first|exact⟨lc60,lc61⟩|exact⟨lc50,lc51⟩|go_keep) (first
  | (go_at_call 151
     refine(ZfP _ _ _ _ _ _ _ _ _ _ _ w2.heap.size _ ((Zb.of_below (F:=fun _=>False) HB5.out).row R4.out.1 (fun _ _ e=>e)) R4.out.2 (by simp[allF]) (by have:=Yr WF2.out (h2 i+1) i (by simpa using hi);unfold lots;omega) H5.out.1 H5.out.2 (by have:=HB5.out.size;have hz4:=B4.out.size;simp only[World.size_setCell] at hz4;omega)).mono ?_
     rintro e w6 ⟨mv6,rfl,hb6,hM6⟩
     have hq6:=(hb6.block w1.heap.size hlq5).trans HQ5.out
     have lc60:w6.cell? ⟨w1.heap.size,0,none⟩=some (.int .i64 (j:Int)):=Za hq6 0
     have lc61:w6.cell? ⟨w1.heap.size,1,none⟩=some (.int .i64 (m:Int)):=Za hq6 1
     have H6:=hid (And.intro hM6 hb6)
     clear hM6 hb6 hq6)
  | (go_at_call 109
     refine(ZaX _ _ _ (by decide) (by decide) _).mono ?_
     rintro e w5 ⟨x5,y5,z5,rfl,hb5,hS5,l51,l52,l53⟩
     have hB5:Below w4.heap.size w4 w5:=⟨hb5.os,hb5.tape,hb5.output,hb5.size,hb5.block⟩
     have hq5:=(hB5.block w1.heap.size hlq4).trans HQ4.out
     have lc50:w5.cell? ⟨w1.heap.size,0,none⟩=some (.int .i64 (j:Int)):=Za hq5 0
     have lc51:w5.cell? ⟨w1.heap.size,1,none⟩=some (.int .i64 (m:Int)):=Za hq5 1
     have hlq5:=Zc hq5
     have HQ5:=hid hq5
     have hz4:=B4.out.size
     have HB5:=hid hB5
     have L1:w4.heap.size≤x5:=l51
     have L2:w4.heap.size≤y5:=l52
     have L3:w4.heap.size≤z5:=l53
     have H5:=hid (And.intro hS5 (And.intro (show w2.heap.size≤x5 by simp only[World.size_setCell] at hz4;omega) (And.intro (show w2.heap.size≤y5 by simp only[World.size_setCell] at hz4;omega) (show w2.heap.size≤z5 by simp only[World.size_setCell] at hz4;omega))))
     clear hS5 l51 l52 l53 hq5 L1 L2 L3 hb5 hB5 hz4))
 all_goals
  go_wp2
  go_ret2
  obtain⟨hkA,hfA⟩:=AFT2.out
  have hb4:=B4.out
  have hz4:=hb4.size
  simp only[World.size_setCell] at hz4
  have hb5:=HB5.out
  have hb6:=H6.out.2
  have hz5:=hb5.size
  have hz6:=hb6.size
  have hzk:=hkA.size
  simp only[World.size_setCell] at hzk
  rw[← World.size_setCell w2 ⟨bn,j*4+2,none⟩ (.slice (some ⟨g,0,none⟩) (y.ks.length - 1) cp),← World.size_setCell (w2.setCell ⟨bn,j*4+2,none⟩ (.slice (some ⟨g,0,none⟩) (y.ks.length - 1) cp)) ⟨bn,i*4,none⟩ (.int .i64 (-1))] at hb4
  have hb:=(hb4.trans (hb5.mono hb4.size)).trans (hb6.mono (Nat.le_trans hb4.size hb5.size))
  refine⟨_,w2.heap.size,rfl,hkA.trans (Zb.of_below hb),hzk,by omega,⟨_,_,_,(hfA.narrow.below hb).wider (fun b h=>?_)⟩,H6.out.1⟩
  have hb2:=h.2
  simp only[World.size_setCell] at hb2
  rcases h.1 with e|e
  · exact .inl e
  · exact .inr ⟨e,hb2⟩
end
end
section
open Go.RowKit
theorem Zeh {w0:World} {t e:TypeId} {n:Nat} {v:Value} {xs:List Value} (ht:Tryz.prog.underlying t=some (.slice e)) (he:Tryz.prog.elem t=e) (hs:∀ w,(sizeOf e).run Tryz.prog w=.ok 1 w) (hr:w0.ownsRow 0 e 1 v n xs) (h1:∀ u∈xs,u.oneCell'=true) (k:Nat) (hk:k≤n) (hnil:∀ w,(Instr.slice t (.slice none 0 0) (some (.int .i64 0)) none none).run Tryz.prog w=.ok (.slice none 0 0) w) :
 ∃ a c,(∀ w,(Instr.slice t v (some (.int .i64 (k:Int))) none none).run Tryz.prog w=.ok (.slice a (n - k) c) w)∧∀ w:World,w.ownsRow 0 e 1 v n xs→YD w 1 (.slice a (n - k) c) (n - k) (xs.drop k):=by
 rcases ZB hr with ⟨hv,h0⟩|⟨g,cc,hgv⟩
 · subst h0
   have hk0:k=0:=by omega
   subst hk0 hv
   have hx:xs=[]:=List.length_eq_zero_iff.1 (by have:=hr.1;omega)
   subst hx
   exact⟨none,0,hnil,fun w _=>.inl ⟨rfl,rfl,rfl⟩⟩
 · subst hgv
   obtain⟨ad,hsl,hsrc⟩:=Za0 ht he hs hr k hk
   refine⟨some ad,cc - k,hsl,fun w h=>?_⟩
   have hl:=hr.1
   unfold YD
   exact Or.inr ⟨ad,cc - k,rfl,by simp;omega,hsrc w h,fun u hu=>h1 u (List.mem_of_mem_drop hu)⟩
end
end Go.Proofs.YtabogkonklplcaaGreatDoor
