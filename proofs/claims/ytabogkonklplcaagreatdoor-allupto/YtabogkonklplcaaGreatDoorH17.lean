import Derived.Test.YtabogkonklplcaaGreatDoorH11
import Derived.Test.YtabogkonklplcaaGreatDoorH12
namespace Go.Proofs.YtabogkonklplcaaGreatDoor
set_option linter.unusedSimpArgs false
set_option linter.unusedVariables false
set_option maxRecDepth 20000
set_option maxHeartbeats 8000000
section
open Go.RowKit
section
variable {w:World} {F:Nat→Prop} {bd bn cap:Nat} {rn:List RN} {rv:Value} {s:List Nd} {rs:List Sp}
theorem ZhM (hD:Zf w F bd bn cap rn rv s rs) (n k:Nat) (c:Int) (x:Nd) (hx:s[n]?=some x) (ht:x.t=true) (hlen:x.cs.length≤30) (hk:k≤x.cs.length) (hc:0≤c) (t:ByteArray) (hts:t.size < lots) (l:List ByteArray) (h:Zr t=some l) (hl:30 < x.cs.length - (min c ((x.cs.length:Int) - k)).toNat+l.length) (hbig:l.length < lots) :
 Calls Tryz.prog 78 #[.pointer (some ⟨bd,0,none⟩),.int .i64 n,.int .i64 k,.int .i64 c,.string t] w fun e w'=>e=.returned (Zi n 6)∧Below w.heap.size w w':=by
 have hn:n<s.length:=(List.getElem?_eq_some_iff.1 hx).1
 have CF:=hid (XX (hD.below (Z1 w)) n k x hx ht hk)
 have h1b:((0:Int) == 0)=true:=rfl
 have h0:=hD.nodesCell
 have hlt:=hD.lt
 obtain⟨r,hr,ho,-,hc1,-,-⟩:=hD.look hx
 obtain⟨ca,cc,hcv⟩:=Zo ho.chars
 rw[hcv] at hc1
 have hcb:decide (c<0)=false:=decide_eq_false (by omega)
 have hkI:(k:Int)≤(x.cs.length:Int):=by omega
 have hlI:(x.cs.length:Int)≤30:=by omega
 have HTB:=hid (Z1 w)
 have HT:=hid hts
 have HC:=hid h
 unfold lots at hbig
 clear hr ho hcv hx ht
 have key:∀ cm:Nat,(c≤(x.cs.length:Int) - k∧(cm:Int)=c∨(x.cs.length:Int) - k<c∧(cm:Int)=(x.cs.length:Int) - k)→cm=(min c ((x.cs.length:Int) - k)).toNat:=fun cm h=>by omega
 by_cases hcm:(x.cs.length:Int) - k<c
 · have hcd:decide ((x.cs.length:Int) - k<c)=true:=decide_eq_true hcm
   have hL:(30:Int)<(x.cs.length:Int) - ((x.cs.length:Int) - k)+l.length:=by omega
   have hLd:decide ((30:Int)<(x.cs.length:Int) - ((x.cs.length:Int) - k)+l.length)=true:=decide_eq_true hL
   clear hD
   go_enter Tryz.func78,Tryz.ntmps78
   go_wp2_with (first
   | (go_at_call 123;refine CF.out.mono ?_;rintro e w1 ⟨rfl,hb1⟩
      have hq2:w1.heap[w.heap.size]?=some (.cells #[.int .i64 0,.int .i64 0] 32 (0,0)):=by
       rw[hb1.block _ (by simp)]
       exact heap_alloc_new w _
      have hs1:w.heap.size+1≤w1.heap.size:=by have:=hb1.size;simpa using this
      have HB1:=hid (HTB.out.trans (hb1.mono HTB.out.size))
      have HQ2:=hid hq2
      clear hb1 hq2)
   | (go_at_call 124;refine(Zy 0 0 _).mono ?_;rintro e w2 ⟨rfl,hb2⟩
      have hf2:w2.heap[w1.heap.size]?=some (.cells #[.int .i64 0,.int .i64 0] 32 (0,0)):=(hb2.block _ (by simp)).trans (heap_alloc_new w1 _)
      have hz2:w2.heap[w.heap.size]?=some (.cells #[.int .i64 0,.int .i64 0] 32 (0,0)) :=
       (hb2.block _ (by simp;omega)).trans ((((Below.refl _ w1).alloc (Nat.le_refl _) _).block _ (by omega)).trans HQ2.out)
      have cf0:w2.cell? ⟨w1.heap.size,0,none⟩=some (.int .i64 0):=Za hf2 0
      have cf1:w2.cell? ⟨w1.heap.size,1,none⟩=some (.int .i64 0):=Za hf2 1
      have cz0:w2.cell? ⟨w.heap.size,0,none⟩=some (.int .i64 0):=Za hz2 0
      have cz1:w2.cell? ⟨w.heap.size,1,none⟩=some (.int .i64 0):=Za hz2 1
      have fz0:=Zd hz2 0
      have fz1:=Zd hz2 1
      have HB2:=hid ((HB1.out.alloc HB1.out.size _).trans (hb2.mono (Nat.le_trans HB1.out.size (by simp))))
      have hs2:w.heap.size+1≤w2.heap.size:=by have:=hb2.size;simp at this;omega
      clear hb2 hf2
      have d0:=(HB2.out.cell (p:=⟨bd,0,none⟩) hlt.1).trans h0
      have dc1:=(HB2.out.cell (p:=⟨bn,n*4+1,none⟩) hlt.2).trans hc1
      have HZ:=hid hz2
      clear hz2 HQ2 HB1
      rw[h1b])
   | (go_at_call 115;refine(XJ t _ HT.out l HC.out).mono ?_;rintro e w3 ⟨v3,rfl,ho3,hb3⟩
      obtain⟨a3,c3,hv3⟩:=Zo ho3
      subst hv3
      have hz3:w3.heap[w.heap.size]?=some (.cells #[.int .i64 0,.int .i64 0] 32 (0,0)):=(hb3.block _ (Zc HZ.out)).trans HZ.out
      have cz0':w3.cell? ⟨w.heap.size,0,none⟩=some (.int .i64 0):=Za hz3 0
      have cz1':w3.cell? ⟨w.heap.size,1,none⟩=some (.int .i64 0):=Za hz3 1
      have fz0':=Zd hz3 0
      have fz1':=Zd hz3 1
      have hs3:w.heap.size+1≤w3.heap.size:=by have:=hb3.size;omega
      have HB3:=hid (HB2.out.trans (hb3.mono HB2.out.size))
      have HZ3:=hid hz3
      clear hb3 hz3 ho3)
   | (go_at_call 48;refine(ZK _ _ _).mono ?_;rintro e w5 ⟨rfl,hw5⟩
      have hz5:w5.heap[w.heap.size]?=some (.cells #[.int .i64 0,.int .i64 0] 32 (0,0)):=by rw[hw5];exact(Below.heap_alloc _ _ _ (Zc HZ3.out)).trans HZ3.out
      have cz5:w5.cell? ⟨w.heap.size,0,none⟩=some (.int .i64 0):=Za hz5 0
      have cz6:w5.cell? ⟨w.heap.size,1,none⟩=some (.int .i64 0):=Za hz5 1
      have fz5:=Zd hz5 0
      have fz6:=Zd hz5 1
      have hs5:=Zc hz5
      have HB5:Hid (Below w.heap.size w w5):=by rw[hw5];exact HB3.out.alloc HB3.out.size _
      clear hz5 hw5))
   clear CF h0 hc1 d0 dc1 cz0 cz1 fz0 fz1 cz0' cz1' fz0' fz1' cf0 cf1
   refine bodyPost_ret (v:=Zi n 6) (by simp[results,Tryz.results78,go_sem,cz5,cz6,fz5,fz6,hs5]) rfl ?_
   exact⟨rfl,(HB5.out.setCell (p:=⟨w.heap.size,0,none⟩) (Nat.le_refl _) _).setCell (p:=⟨w.heap.size,1,none⟩) (Nat.le_refl _) _⟩
 · have hcd:decide ((x.cs.length:Int) - k<c)=false:=decide_eq_false hcm
   have hL:(30:Int)<(x.cs.length:Int) - c+l.length:=by omega
   have hLd:decide ((30:Int)<(x.cs.length:Int) - c+l.length)=true:=decide_eq_true hL
   have hcI:c≤30:=by omega
   clear hD
   go_enter Tryz.func78,Tryz.ntmps78
   go_wp2_with (first
   | (go_at_call 123;refine CF.out.mono ?_;rintro e w1 ⟨rfl,hb1⟩
      have hq2:w1.heap[w.heap.size]?=some (.cells #[.int .i64 0,.int .i64 0] 32 (0,0)):=by
       rw[hb1.block _ (by simp)]
       exact heap_alloc_new w _
      have hs1:w.heap.size+1≤w1.heap.size:=by have:=hb1.size;simpa using this
      have HB1:=hid (HTB.out.trans (hb1.mono HTB.out.size))
      have HQ2:=hid hq2
      clear hb1 hq2)
   | (go_at_call 124;refine(Zy 0 0 _).mono ?_;rintro e w2 ⟨rfl,hb2⟩
      have hf2:w2.heap[w1.heap.size]?=some (.cells #[.int .i64 0,.int .i64 0] 32 (0,0)):=(hb2.block _ (by simp)).trans (heap_alloc_new w1 _)
      have hz2:w2.heap[w.heap.size]?=some (.cells #[.int .i64 0,.int .i64 0] 32 (0,0)) :=
       (hb2.block _ (by simp;omega)).trans ((((Below.refl _ w1).alloc (Nat.le_refl _) _).block _ (by omega)).trans HQ2.out)
      have cf0:w2.cell? ⟨w1.heap.size,0,none⟩=some (.int .i64 0):=Za hf2 0
      have cf1:w2.cell? ⟨w1.heap.size,1,none⟩=some (.int .i64 0):=Za hf2 1
      have cz0:w2.cell? ⟨w.heap.size,0,none⟩=some (.int .i64 0):=Za hz2 0
      have cz1:w2.cell? ⟨w.heap.size,1,none⟩=some (.int .i64 0):=Za hz2 1
      have fz0:=Zd hz2 0
      have fz1:=Zd hz2 1
      have HB2:=hid ((HB1.out.alloc HB1.out.size _).trans (hb2.mono (Nat.le_trans HB1.out.size (by simp))))
      have hs2:w.heap.size+1≤w2.heap.size:=by have:=hb2.size;simp at this;omega
      clear hb2 hf2
      have d0:=(HB2.out.cell (p:=⟨bd,0,none⟩) hlt.1).trans h0
      have dc1:=(HB2.out.cell (p:=⟨bn,n*4+1,none⟩) hlt.2).trans hc1
      have HZ:=hid hz2
      clear hz2 HQ2 HB1
      rw[h1b])
   | (go_at_call 115;refine(XJ t _ HT.out l HC.out).mono ?_;rintro e w3 ⟨v3,rfl,ho3,hb3⟩
      obtain⟨a3,c3,hv3⟩:=Zo ho3
      subst hv3
      have hz3:w3.heap[w.heap.size]?=some (.cells #[.int .i64 0,.int .i64 0] 32 (0,0)):=(hb3.block _ (Zc HZ.out)).trans HZ.out
      have cz0':w3.cell? ⟨w.heap.size,0,none⟩=some (.int .i64 0):=Za hz3 0
      have cz1':w3.cell? ⟨w.heap.size,1,none⟩=some (.int .i64 0):=Za hz3 1
      have fz0':=Zd hz3 0
      have fz1':=Zd hz3 1
      have hs3:w.heap.size+1≤w3.heap.size:=by have:=hb3.size;omega
      have HB3:=hid (HB2.out.trans (hb3.mono HB2.out.size))
      have HZ3:=hid hz3
      clear hb3 hz3 ho3)
   | (go_at_call 48;refine(ZK _ _ _).mono ?_;rintro e w5 ⟨rfl,hw5⟩
      have hz5:w5.heap[w.heap.size]?=some (.cells #[.int .i64 0,.int .i64 0] 32 (0,0)):=by rw[hw5];exact(Below.heap_alloc _ _ _ (Zc HZ3.out)).trans HZ3.out
      have cz5:w5.cell? ⟨w.heap.size,0,none⟩=some (.int .i64 0):=Za hz5 0
      have cz6:w5.cell? ⟨w.heap.size,1,none⟩=some (.int .i64 0):=Za hz5 1
      have fz5:=Zd hz5 0
      have fz6:=Zd hz5 1
      have hs5:=Zc hz5
      have HB5:Hid (Below w.heap.size w w5):=by rw[hw5];exact HB3.out.alloc HB3.out.size _
      clear hz5 hw5))
   clear CF h0 hc1 d0 dc1 cz0 cz1 fz0 fz1 cz0' cz1' fz0' fz1' cf0 cf1
   refine bodyPost_ret (v:=Zi n 6) (by simp[results,Tryz.results78,go_sem,cz5,cz6,fz5,fz6,hs5]) rfl ?_
   exact⟨rfl,(HB5.out.setCell (p:=⟨w.heap.size,0,none⟩) (Nat.le_refl _) _).setCell (p:=⟨w.heap.size,1,none⟩) (Nat.le_refl _) _⟩
end
end
section
open Go.RowKit
abbrev spV (x:Sp):Value:=.agg #[.int .i64 x.a,.int .i64 x.b,.int .i64 x.c,.int .i64 x.d]
abbrev sp0 (w:World):World:=(w.alloc (.cells #[.int .i64 0,.int .i64 0,.int .i64 0,.int .i64 0] 79)).alloc (.cells #[.int .i64 0,.int .i64 0] 32)
theorem Jl (w:World):Below w.heap.size w (sp0 w):=((Below.refl _ w).alloc (Nat.le_refl _) _).alloc (by simp) _
theorem Zeg {w w1:World} (hb:Below (sp0 w).heap.size (sp0 w) w1):w1.heap[w.heap.size]?=some (.cells #[.int .i64 0,.int .i64 0,.int .i64 0,.int .i64 0] 79 (0,0))∧w1.heap[w.heap.size+1]?=some (.cells #[.int .i64 0,.int .i64 0] 32 (0,0)):=by
 constructor
 · rw[hb.block _ (by simp;omega),Below.heap_alloc _ _ _ (by simp),heap_alloc_new]
 · rw[hb.block _ (by simp)]
   have:=heap_alloc_new (w.alloc (.cells #[.int .i64 0,.int .i64 0,.int .i64 0,.int .i64 0] 79)) (.cells #[.int .i64 0,.int .i64 0] 32)
   simpa using this
section
variable {w:World} {F:Nat→Prop} {bd bn cap:Nat} {rn:List RN} {rv:Value} {s:List Nd} {rs:List Sp}
theorem rspan_no (hD:Zf w F bd bn cap rn rv s rs) (r:Int) (h:r < 0∨(rs.length:Int)≤r) :
 Calls Tryz.prog 84 #[.pointer (some ⟨bd,0,none⟩),.int .i64 r] w fun e w'=>e=.returned (.tuple #[spV ⟨0,0,0,0⟩,Zi r 8])∧Below w.heap.size w w':=by
 have CR:=hid (fun W (hb:Below w.heap.size w W)=>ZaU (hD.below hb) r h)
 have h1b:((8:Int) == 0)=false:=rfl
 clear hD h
 go_enter Tryz.func84,Tryz.ntmps84
 go_wp2_with (first
  | (go_at_call 131;refine(CR.out _ (Jl w)).mono ?_;rintro e w1 ⟨rfl,hb1⟩
     have H1:=hid hb1
     have hs1:=hb1.size
     clear hb1)
  | (go_at_call 124;refine(Zy r 8 _).mono ?_;rintro e w2 ⟨rfl,hb2⟩
     have hf2:w2.heap[w1.heap.size]?=some (.cells #[.int .i64 r,.int .i64 8] 32 (0,0)):=(hb2.block _ (by simp)).trans (heap_alloc_new w1 _)
     have hB2:Below (sp0 w).heap.size (sp0 w) w2:=(H1.out.alloc H1.out.size _).trans (hb2.mono (Nat.le_trans H1.out.size (by simp)))
     obtain⟨s1,s2⟩:=Zeg hB2
     have cf0:w2.cell? ⟨w1.heap.size,0,none⟩=some (.int .i64 r):=Za hf2 0
     have cf1:w2.cell? ⟨w1.heap.size,1,none⟩=some (.int .i64 8):=Za hf2 1
     have za0:w2.cell? ⟨w.heap.size,0,none⟩=some (.int .i64 0):=Za s1 0
     have za1:w2.cell? ⟨w.heap.size,1,none⟩=some (.int .i64 0):=Za s1 1
     have za2:w2.cell? ⟨w.heap.size,2,none⟩=some (.int .i64 0):=Za s1 2
     have za3:w2.cell? ⟨w.heap.size,3,none⟩=some (.int .i64 0):=Za s1 3
     have zb0:w2.cell? ⟨w.heap.size+1,0,none⟩=some (.int .i64 0):=Za s2 0
     have zb1:w2.cell? ⟨w.heap.size+1,1,none⟩=some (.int .i64 0):=Za s2 1
     have fa0:=Zd s1 0
     have fa1:=Zd s1 1
     have fa2:=Zd s1 2
     have fa3:=Zd s1 3
     have fb0:=Zd s2 0
     have fb1:=Zd s2 1
     have hsa:=Zc s2
     have hsf:=Zc hf2
     have hne:¬ w1.heap.size=w.heap.size:=by simp at hs1;omega
     have hne':¬ w1.heap.size=w.heap.size+1:=by simp at hs1;omega
     have HB2:=hid ((Jl w).trans (hB2.mono (Jl w).size))
     skip
     clear hb2 hf2 hB2 s1 s2
     rw[h1b]))
 go_region
 all_goals
  go_wp2
  refine bodyPost_ret (v:=.tuple #[spV ⟨0,0,0,0⟩,Zi r 8]) (by simp[results,Tryz.results84,go_sem, *]) rfl ?_
  refine⟨rfl,?_⟩
  have hB:=HB2.out
  have hz:=hB.size
  go_grown
theorem rspan_ok (hD:Zf w F bd bn cap rn rv s rs) (r:Nat) (x:Sp) (hx:rs[r]?=some x) :
 Calls Tryz.prog 84 #[.pointer (some ⟨bd,0,none⟩),.int .i64 (r:Int)] w fun e w'=>e=.returned (.tuple #[spV x,Zi 0 0])∧Below w.heap.size w w':=by
 have hr:r<rs.length:=(List.getElem?_eq_some_iff.1 hx).1
 have CR:=hid (fun W (hb:Below w.heap.size w W)=>YT (hD.below hb) r hr)
 have h1b:((0:Int) == 0)=true:=rfl
 have hlt:=hD.lt
 have hrv:=hD.rangesCell
 obtain⟨g,rc,hrve⟩:∃ g c,rv=.slice (some ⟨g,0,none⟩) rs.length c:=by
  rcases ZB hD.ranges with ⟨_,h0⟩|⟨g,c,h⟩
  · omega
  · exact⟨g,c,h⟩
 have hrow:=hD.ranges
 rw[hrve] at hrv hrow
 have hgl:g<w.heap.size:=(hrow.lt g rfl).2
 have e0:w.cell? ⟨g,r*4,none⟩=some (.int .i64 x.a):=by have:=hrow.cellAt (r*4+0) (by omega);rw[ZX rs r x hx 0 (by omega)] at this;simpa[Sp.cells] using this
 have e1:w.cell? ⟨g,r*4+1,none⟩=some (.int .i64 x.b):=by have:=hrow.cellAt (r*4+1) (by omega);rw[ZX rs r x hx 1 (by omega)] at this;simpa[Sp.cells] using this
 have e2:w.cell? ⟨g,r*4+2,none⟩=some (.int .i64 x.c):=by have:=hrow.cellAt (r*4+2) (by omega);rw[ZX rs r x hx 2 (by omega)] at this;simpa[Sp.cells] using this
 have e3:w.cell? ⟨g,r*4+3,none⟩=some (.int .i64 x.d):=by have:=hrow.cellAt (r*4+3) (by omega);rw[ZX rs r x hx 3 (by omega)] at this;simpa[Sp.cells] using this
 clear hD hrow hx
 go_enter Tryz.func84,Tryz.ntmps84
 go_wp2_with (first
  | (go_at_call 131;refine(CR.out _ (Jl w)).mono ?_;rintro e w1 ⟨rfl,hb1⟩
     have H1:=hid hb1
     have hs1:=hb1.size
     clear hb1)
  | (go_at_call 124;refine(Zy 0 0 _).mono ?_;rintro e w2 ⟨rfl,hb2⟩
     have hf2:w2.heap[w1.heap.size]?=some (.cells #[.int .i64 0,.int .i64 0] 32 (0,0)):=(hb2.block _ (by simp)).trans (heap_alloc_new w1 _)
     have hB2:Below (sp0 w).heap.size (sp0 w) w2:=(H1.out.alloc H1.out.size _).trans (hb2.mono (Nat.le_trans H1.out.size (by simp)))
     obtain⟨s1,s2⟩:=Zeg hB2
     have cf0:w2.cell? ⟨w1.heap.size,0,none⟩=some (.int .i64 0):=Za hf2 0
     have cf1:w2.cell? ⟨w1.heap.size,1,none⟩=some (.int .i64 0):=Za hf2 1
     have za0:w2.cell? ⟨w.heap.size,0,none⟩=some (.int .i64 0):=Za s1 0
     have za1:w2.cell? ⟨w.heap.size,1,none⟩=some (.int .i64 0):=Za s1 1
     have za2:w2.cell? ⟨w.heap.size,2,none⟩=some (.int .i64 0):=Za s1 2
     have za3:w2.cell? ⟨w.heap.size,3,none⟩=some (.int .i64 0):=Za s1 3
     have zb0:w2.cell? ⟨w.heap.size+1,0,none⟩=some (.int .i64 0):=Za s2 0
     have zb1:w2.cell? ⟨w.heap.size+1,1,none⟩=some (.int .i64 0):=Za s2 1
     have fa0:=Zd s1 0
     have fa1:=Zd s1 1
     have fa2:=Zd s1 2
     have fa3:=Zd s1 3
     have fb0:=Zd s2 0
     have fb1:=Zd s2 1
     have hsa:=Zc s2
     have hsf:=Zc hf2
     have hne:¬ w1.heap.size=w.heap.size:=by simp at hs1;omega
     have hne':¬ w1.heap.size=w.heap.size+1:=by simp at hs1;omega
     have HB2:=hid ((Jl w).trans (hB2.mono (Jl w).size))
     have d0:=(HB2.out.cell (p:=⟨bd,1,none⟩) hlt.1).trans hrv
     have m0:=(HB2.out.cell (p:=⟨g,r*4,none⟩) hgl).trans e0
     have m1:=(HB2.out.cell (p:=⟨g,r*4+1,none⟩) hgl).trans e1
     have m2:=(HB2.out.cell (p:=⟨g,r*4+2,none⟩) hgl).trans e2
     have m3:=(HB2.out.cell (p:=⟨g,r*4+3,none⟩) hgl).trans e3
     have hgn:¬ w.heap.size=g:=by omega
     have hgn1:¬ w.heap.size+1=g:=by omega
     clear hb2 hf2 hB2 s1 s2
     rw[h1b]))
 go_region
 all_goals
  go_wp2
  refine bodyPost_ret (v:=.tuple #[spV x,Zi 0 0]) (by simp[results,Tryz.results84,go_sem, *]) rfl ?_
  refine⟨rfl,?_⟩
  have hB:=HB2.out
  have hz:=hB.size
  go_grown
end
end
section
open Go.RowKit
theorem Tryz.info79:(Tryz.prog.info? 79).map (fun i=>(i.zero,i.size,i.bytes))=some (some (.agg #[.int .i64 0,.int .i64 0,.int .i64 0,.int .i64 0]),4,32):=by kernel_rfl
section
variable {w:World} {F:Nat→Prop} {bd bn cap:Nat} {rn:List RN} {rv:Value} {s:List Nd} {rs:List Sp}
theorem Zf.newRanges (h:Zf w F bd bn cap rn rv s rs) {w1:World} {v':Value} {rs':List Sp} {B:Nat} (hB:B≤w.heap.size) (hk1:Zb (fun b=>rv.ownBlock=some b) w w1)
 (ho:w1.ownsRow 0 79 4 v' rs'.length (rs'.flatMap Sp.cells)) (hgn:∀ b,v'.ownBlock=some b→rv.ownBlock=some b∨w.heap.size≤b) :
 Zf (w1.setCell ⟨bd,1,none⟩ v') (fun b=>F b∨B≤b) bd bn cap rn v' s rs':=by
 have hlt:=h.lt
 have hbd:rv.ownBlock≠some bd:=fun e=>(h.apart bd e).2.1 rfl
 have hbn:rv.ownBlock≠some bn:=fun e=>(h.apart bn e).2.2 rfl
 have hk:Zb (fun b=>rv.ownBlock=some b∨b=bd) w (w1.setCell ⟨bd,1,none⟩ v'):=(hk1.mono (fun k _ e=>.inl e)).setCell (p:=⟨bd,1,none⟩) (.inl (.inr rfl)) _
 have hv:v'.ownBlock≠some bd:=fun e=>by
  rcases hgn bd e with e|e
  · exact hbd e
  · omega
 have hvn:v'.ownBlock≠some bn:=fun e=>by
  rcases hgn bn e with e|e
  · exact hbn e
  · omega
 refine⟨?_,?_,XV ho hv _,.inl h.Fd,.inl h.Fn,h.ne,fun b e=>⟨?_,fun e2=>hv (by rw[← e2];exact e),fun e2=>hvn (by rw[← e2];exact e)⟩,h.len,fun i r x hr hx=>?_⟩
 · have e1:=(hk1.block bd hlt.1 hbd).trans h.doc
   rw[heap_setCell_same w1 bd 1 _ _ _ e1]
   simp
 · exact hk.row h.nodes (fun b e e2=>by
    cases e
    rcases e2 with e2|e2
    · exact hbn e2
    · exact h.ne e2.symm)
 · rcases hgn b e with e|e
   · exact .inl (h.apart b e).1
   · exact .inr (by omega)
 · have o:=h.ok i r x hr hx
   have far:∀ b,b<w.heap.size→rv.ownBlock≠some b→v'.ownBlock≠some b:=fun b hb hr e=>by
    rcases hgn b e with e|e
    · exact hr e
    · omega
   refine⟨o.t,o.p,hk.row o.chars (fun b e e2=>?_),hk.row o.kids (fun b e e2=>?_),fun b e=>?_,fun b e=>?_⟩
   · rcases e2 with e2|e2
     · exact(o.apartC b e).2.2.2 e2
     · exact(o.apartC b e).2.1 e2
   · rcases e2 with e2|e2
     · exact(o.apartK b e).2.2.2 e2
     · exact(o.apartK b e).2.1 e2
   · have a:=o.apartC b e
     exact⟨.inl a.1,a.2.1,a.2.2.1,far b (o.chars.lt b e).2 a.2.2.2⟩
   · have a:=o.apartK b e
     exact⟨.inl a.1,a.2.1,a.2.2.1,far b (o.kids.lt b e).2 a.2.2.2⟩
theorem ZhF (hD:Zf w F bd bn cap rn rv s rs) (h6:6≤rs.length) :
 Calls Tryz.prog 81 #[.pointer (some ⟨bd,0,none⟩)] w fun e w'=>e=.returned (.tuple #[.int .i64 0,Zi 0 7])∧Below w.heap.size w w':=by
 obtain⟨ra,rc,hrve⟩:=Zo hD.ranges
 have hrv:=hD.rangesCell
 rw[hrve] at hrv
 have hl:bd<w.heap.size:=hD.lt.1
 clear hD
 have h1:(6:Int)≤rs.length:=by omega
 go_enter Tryz.func81,Tryz.ntmps81
 go_wp2_with (go_at_call 48;refine(ZK _ _ _).mono ?_;rintro e w' ⟨rfl,rfl⟩)
 go_returns
 exact⟨rfl,by go_grown⟩
theorem ZhG (hD:Zf w F bd bn cap rn rv s rs) (h6:rs.length < 6) :
 Calls Tryz.prog 81 #[.pointer (some ⟨bd,0,none⟩)] w fun e w'=>e=.returned (.tuple #[.int .i64 rs.length,Zi 0 0])∧Zb F w w'∧RDoc w' (fun b=>F b∨w.heap.size≤b) bd s (rs++[⟨0,0,0,0⟩]):=by
 obtain⟨i0,hi,hz0,hz1,hz2⟩:=info_parts Tryz.info79
 obtain⟨ra,rc,hrve⟩:=Zo hD.ranges
 have hrv:=hD.rangesCell
 rw[hrve] at hrv
 have hlt:=hD.lt
 have h1:¬ (6:Int)≤rs.length:=by omega
 have hD2:Zf ((w.alloc (.cells #[.int .i64 0,.int .i64 0] 32)).alloc (.cells #[.int .i64 0,.int .i64 0,.int .i64 0,.int .i64 0] 79)) (fun b=>F b∧b<w.heap.size) bd bn cap rn rv s rs:=hD.narrow.below (((Below.refl _ w).alloc (Nat.le_refl _) _).alloc (by simp) _)
 have hrow:=hD2.ranges
 rw[hrve] at hrow
 have src:∀ (j:Nat) (u:Value),[Value.int .i64 0,.int .i64 0,.int .i64 0,.int .i64 0][j]?=some u→((w.alloc (.cells #[.int .i64 0,.int .i64 0] 32)).alloc (.cells #[.int .i64 0,.int .i64 0,.int .i64 0,.int .i64 0] 79)).cell? ((⟨w.heap.size+1,0,none⟩:Addr).add j)=some u:=by
  have:=World.news_of_block (heap_alloc_new (w.alloc (.cells #[.int .i64 0,.int .i64 0] 32)) (.cells #[.int .i64 0,.int .i64 0,.int .i64 0,.int .i64 0] 79))
  simpa using this
 have hq2:((w.alloc (.cells #[.int .i64 0,.int .i64 0] 32)).alloc (.cells #[.int .i64 0,.int .i64 0,.int .i64 0,.int .i64 0] 79)).heap[w.heap.size]?=some (.cells #[.int .i64 0,.int .i64 0] 32 (0,0)):=by
  rw[Below.heap_alloc _ _ _ (by simp),heap_alloc_new]
 have hbd:(Value.slice ra rs.length rc).ownBlock≠some bd:=fun e=>(hD.apart bd (by rw[hrve];exact e)).2.1 rfl
 have hbl:∀ b,(Value.slice ra rs.length rc).ownBlock=some b→b<w.heap.size:=fun b e=>(hD.ranges.lt b (by rw[hrve];exact e)).2
 have SRC:=hid src
 have HD:=hid hD2
 have HO:=hid hD
 have HQ:=hid hq2
 have HROW:=hid hrow
 have HBD:=hid (And.intro hbd hbl)
 have HRV:=hid hrve
 clear hD hD2 src hq2 hrow hbd hbl hrve
 go_enter Tryz.func81,Tryz.ntmps81
 go_wp2_with (
  at_builtin
  refine wpList_append_lies _ rfl (.tmp 15) (.tmp 17) 121 rfl 0 79 i0 _ 4 32 Tryz.underlying121 hi hz0 hz1 hz2 rfl (by decide) (.slice ra rs.length rc) rs.length _ rfl HROW.out ⟨w.heap.size+1,0,none⟩ 1 1 [.int .i64 0,.int .i64 0,.int .i64 0,.int .i64 0] rfl rfl SRC.out (by simp[Value.oneCell']) (by decide) (by unfold maxLen;omega) (by omega) (Nat.zero_le _) (w.heap.size+2) (by simp) ?_
  intro g cap' w1 ho hg hgn _
  have hk1:Zb (fun b=>(Value.slice ra rs.length rc).ownBlock=some b) ((w.alloc (.cells #[.int .i64 0,.int .i64 0] 32)).alloc (.cells #[.int .i64 0,.int .i64 0,.int .i64 0,.int .i64 0] 79)) w1:=Zb.grown hg (fun k e=>.inl e)
  have hd1:=(hk1.block bd (by simp only[World.size_alloc];omega) HBD.out.1).trans HD.out.doc
  have hc1:w1.cell? ⟨bd,1,none⟩=some rv:=Za hd1 1
  have hf1:=Zd hd1 1
  have hq1:=(hk1.block w.heap.size (by simp only[World.size_alloc];omega) (fun e=>by have:=HBD.out.2 _ e;omega)).trans HQ.out
  have hc2:w1.cell? ⟨w.heap.size,0,none⟩=some (.int .i64 0):=Za hq1 0
  have hc3:w1.cell? ⟨w.heap.size,1,none⟩=some (.int .i64 0):=Za hq1 1
  have hf2:=Zd hq1 0
  have hf3:=Zd hq1 1
  have hne:¬ bd=w.heap.size:=by omega
  have HK:=hid hk1
  have HO2:=hid ho
  have HN:=hid hgn
  clear hd1 hq1 hg ho hgn hk1)
 refine bodyPost_ret (v:=.tuple #[.int .i64 rs.length,Zi 0 0]) (by simp[results,Tryz.results81,go_sem, *]) rfl ?_
 have hk0:Zb F w w1:=(((Zb.refl F w).alloc _).alloc _).trans (HK.out.mono (fun b _ e=>.inl (HO.out.apart b (by rw[HRV.out];exact e)).1))
 refine⟨rfl,((hk0.setCell (p:=⟨bd,1,none⟩) (.inl HO.out.Fd) _).setCell (p:=⟨w.heap.size,0,none⟩) (.inr (Nat.le_refl _)) _).setCell (p:=⟨w.heap.size,1,none⟩) (.inr (Nat.le_refl _)) _,bn,cap,rn,.slice (some ⟨g,0,none⟩) (rs.length+1) cap',?_⟩
 have hp:=HD.out.newRanges (v':=.slice (some ⟨g,0,none⟩) (rs.length+1) cap') (rs':=rs++[⟨0,0,0,0⟩]) (B:=w.heap.size+1) (by simp only[World.size_alloc];omega) (by rw[HRV.out];exact HK.out)
  (by rw[List.length_append,List.flatMap_append];exact HO2.out) (fun b e=>by
    cases e
    rcases HN.out with e|e
    · exact .inl (by rw[HRV.out];exact e)
    · exact .inr (by simp only[World.size_alloc];omega))
 have hk3:Zb (fun b=>b=w.heap.size) (w1.setCell ⟨bd,1,none⟩ (.slice (some ⟨g,0,none⟩) (rs.length+1) cap')) _ :=
  ((Zb.refl (fun b=>b=w.heap.size) _).setCell (p:=⟨w.heap.size,0,none⟩) (.inl rfl) (.int .i64 0)).setCell (p:=⟨w.heap.size,1,none⟩) (.inl rfl) (.int .i64 0)
 refine(hp.keeps hk3 ?_).wider ?_
 · intro b hb e
   rcases hb with hb|hb <;> omega
 · intro b hb
   rcases hb with hb|hb
   · exact .inl hb.1
   · exact .inr (by omega)
end
end
section
open Go.RowKit
section
variable {w:World} {F:Nat→Prop} {bd bn cap:Nat} {rn:List RN} {rv:Value} {s:List Nd} {rs:List Sp}
theorem Zb3 (n k:Int) (f0 f1:Int) (h1:f1≠0) (hT:Calls Tryz.prog 123 #[.pointer (some ⟨bd,0,none⟩),.int .i64 n,.int .i64 k] (one0 w) fun e w'=>e=.returned (Zi f0 f1)∧Below (one0 w).heap.size (one0 w) w') :
 Calls Tryz.prog 79 #[.pointer (some ⟨bd,0,none⟩),.int .i64 n,.int .i64 k] w fun e w'=>e=.returned (.tuple #[.int .i64 0,Zi f0 f1])∧Below w.heap.size w w':=by
 have CF:=hid hT
 have h1b:(f1 == 0)=false:=by simpa using h1
 have HTB:=hid (Z1 w)
 clear hT h1
 go_enter Tryz.func79,Tryz.ntmps79
 go_wp2_with (first
  | (go_at_call 123;refine CF.out.mono ?_;rintro e w1 ⟨rfl,hb1⟩
     have hq2:w1.heap[w.heap.size]?=some (.cells #[.int .i64 0,.int .i64 0] 32 (0,0)):=by
      rw[hb1.block _ (by simp)]
      exact heap_alloc_new w _
     have hs1:w.heap.size+1≤w1.heap.size:=by have:=hb1.size;simpa using this
     have HB1:=hid (HTB.out.trans (hb1.mono HTB.out.size))
     have HQ2:=hid hq2
     clear hb1 hq2)
  | (go_at_call 124;refine(Zy f0 f1 _).mono ?_;rintro e w2 ⟨rfl,hb2⟩
     have hf2:w2.heap[w1.heap.size]?=some (.cells #[.int .i64 f0,.int .i64 f1] 32 (0,0)):=(hb2.block _ (by simp)).trans (heap_alloc_new w1 _)
     have hz2:w2.heap[w.heap.size]?=some (.cells #[.int .i64 0,.int .i64 0] 32 (0,0)) :=
      (hb2.block _ (by simp;omega)).trans ((((Below.refl _ w1).alloc (Nat.le_refl _) _).block _ (by omega)).trans HQ2.out)
     have cf0:w2.cell? ⟨w1.heap.size,0,none⟩=some (.int .i64 f0):=Za hf2 0
     have cf1:w2.cell? ⟨w1.heap.size,1,none⟩=some (.int .i64 f1):=Za hf2 1
     have cz0:w2.cell? ⟨w.heap.size,0,none⟩=some (.int .i64 0):=Za hz2 0
     have cz1:w2.cell? ⟨w.heap.size,1,none⟩=some (.int .i64 0):=Za hz2 1
     have fz0:=Zd hz2 0
     have fz1:=Zd hz2 1
     have HB2:=hid ((HB1.out.alloc HB1.out.size _).trans (hb2.mono (Nat.le_trans HB1.out.size (by simp))))
     have hs2:w.heap.size+1≤w2.heap.size:=by have:=hb2.size;simp at this;omega
     clear hb2 hf2
     skip
     rw[h1b]))
 go_region
 all_goals
  go_wp2
  refine bodyPost_ret (v:=.tuple #[.int .i64 0,Zi f0 f1]) (by simp[results,Tryz.results79,go_sem, *]) rfl ?_
  exact⟨rfl,((HB2.out.setCell (p:=⟨w.heap.size,0,none⟩) (Nat.le_refl _) _).setCell (p:=⟨w.heap.size,1,none⟩) (Nat.le_refl _) _).drew⟩
theorem ZhO (hD:Zf w F bd bn cap rn rv s rs) (n k:Nat) (x:Nd) (hx:s[n]?=some x) (ht:x.t=true) (hk:k≤x.cs.length) (h40:40≤s.length) :
 Calls Tryz.prog 79 #[.pointer (some ⟨bd,0,none⟩),.int .i64 n,.int .i64 k] w fun e w'=>e=.returned (.tuple #[.int .i64 0,Zi n 7])∧Below w.heap.size w w':=by
 have CF:=hid (XX (hD.below (Z1 w)) n k x hx ht hk)
 have h1b:((0:Int) == 0)=true:=rfl
 have h40b:decide ((40:Int)≤(s.length:Int))=true:=decide_eq_true (by omega)
 have h0:=hD.nodesCell
 have hlt:=hD.lt
 have HTB:=hid (Z1 w)
 clear hD hx ht hk
 go_enter Tryz.func79,Tryz.ntmps79
 go_wp2_with (first
  | (go_at_call 123;refine CF.out.mono ?_;rintro e w1 ⟨rfl,hb1⟩
     have hq2:w1.heap[w.heap.size]?=some (.cells #[.int .i64 0,.int .i64 0] 32 (0,0)):=by
      rw[hb1.block _ (by simp)]
      exact heap_alloc_new w _
     have hs1:w.heap.size+1≤w1.heap.size:=by have:=hb1.size;simpa using this
     have HB1:=hid (HTB.out.trans (hb1.mono HTB.out.size))
     have HQ2:=hid hq2
     clear hb1 hq2)
  | (go_at_call 124;refine(Zy 0 0 _).mono ?_;rintro e w2 ⟨rfl,hb2⟩
     have hf2:w2.heap[w1.heap.size]?=some (.cells #[.int .i64 0,.int .i64 0] 32 (0,0)):=(hb2.block _ (by simp)).trans (heap_alloc_new w1 _)
     have hz2:w2.heap[w.heap.size]?=some (.cells #[.int .i64 0,.int .i64 0] 32 (0,0)) :=
      (hb2.block _ (by simp;omega)).trans ((((Below.refl _ w1).alloc (Nat.le_refl _) _).block _ (by omega)).trans HQ2.out)
     have cf0:w2.cell? ⟨w1.heap.size,0,none⟩=some (.int .i64 0):=Za hf2 0
     have cf1:w2.cell? ⟨w1.heap.size,1,none⟩=some (.int .i64 0):=Za hf2 1
     have cz0:w2.cell? ⟨w.heap.size,0,none⟩=some (.int .i64 0):=Za hz2 0
     have cz1:w2.cell? ⟨w.heap.size,1,none⟩=some (.int .i64 0):=Za hz2 1
     have fz0:=Zd hz2 0
     have fz1:=Zd hz2 1
     have HB2:=hid ((HB1.out.alloc HB1.out.size _).trans (hb2.mono (Nat.le_trans HB1.out.size (by simp))))
     have hs2:w.heap.size+1≤w2.heap.size:=by have:=hb2.size;simp at this;omega
     clear hb2 hf2
     have HZ:=hid hz2
     have d0:=(HB2.out.cell (p:=⟨bd,0,none⟩) hlt.1).trans h0
     clear hz2
     rw[h1b])
  | (go_at_call 48;refine(ZK _ _ _).mono ?_;rintro e w5 ⟨rfl,hw5⟩
     have hz5:w5.heap[w.heap.size]?=some (.cells #[.int .i64 0,.int .i64 0] 32 (0,0)):=by rw[hw5];exact(Below.heap_alloc _ _ _ (Zc HZ.out)).trans HZ.out
     have cz5:w5.cell? ⟨w.heap.size,0,none⟩=some (.int .i64 0):=Za hz5 0
     have cz6:w5.cell? ⟨w.heap.size,1,none⟩=some (.int .i64 0):=Za hz5 1
     have fz5:=Zd hz5 0
     have fz6:=Zd hz5 1
     have hs5:=Zc hz5
     have HB5:Hid (Below w.heap.size w w5):=by rw[hw5];exact HB2.out.alloc HB2.out.size _
     clear hz5 hw5))
 refine bodyPost_ret (v:=.tuple #[.int .i64 0,Zi n 7]) (by simp[results,Tryz.results79,go_sem,cz5,cz6,fz5,fz6,hs5]) rfl ?_
 exact⟨rfl,(HB5.out.setCell (p:=⟨w.heap.size,0,none⟩) (Nat.le_refl _) _).setCell (p:=⟨w.heap.size,1,none⟩) (Nat.le_refl _) _⟩
end
end
end Go.Proofs.YtabogkonklplcaaGreatDoor
