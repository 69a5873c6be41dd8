import Derived.Test.YtabogkonklplcaaGreatDoorJ40
import Derived.Test.YtabogkonklplcaaGreatDoorJ24
import Derived.Test.YtabogkonklplcaaGreatDoorJ11
import Derived.Test.YtabogkonklplcaaGreatDoorJ12
namespace Go.Proofs.YtabogkonklplcaaGreatDoor
set_option linter.unusedSimpArgs false
set_option linter.unusedVariables false
set_option maxRecDepth 20000
set_option maxHeartbeats 8000000
section
open Go.RowKit Go.Lib
theorem ZhQ (l l2:List Nat) (k k2 g1 c1 g2 c2:Nat) (w:World) (h1:∀ (j x:Nat),(l++[k])[j]?=some x→w.cell? ⟨g1,j,none⟩=some (.int .i64 x)) (h2:∀ (j x:Nat),(l2++[k2])[j]?=some x→w.cell? ⟨g2,j,none⟩=some (.int .i64 x)) (hl:l.length≤40) (hm:l2.length≤40) :
 Calls Tryz.prog 152 #[.slice (some ⟨g1,0,none⟩) (l.length+1) c1,.slice (some ⟨g2,0,none⟩) (l2.length+1) c2] w fun e w'=>e=.returned (.int .i64 (lexC (l++[k]) (l2++[k2])))∧w'=w:=by
 have h:=scmp_any (l++[k]) (l2++[k2]) g1 c1 g2 c2 w h1 h2 (by simp;unfold lots;omega) (by simp;unfold lots;omega)
 rw[show (l++[k]).length=l.length+1 by simp,show (l2++[k2]).length=l2.length+1 by simp] at h
 exact h
theorem Za3 {w:World} {F:Nat→Prop} {bf bn cap:Nat} {pn:List PN} {s:List Nd} (wf:WF s) (hD:Zh w F bf bn cap pn s) {n t:Nat} (ht:Zm s n t) (hn:n < s.length) :
 Calls Tryz.prog 99 #[ptr bf,.int .i64 n] w fun e w'=>e=.returned (.int .i64 t)∧w'=w:=by
 refine(ttop_any wf hD n hn).mono ?_
 rintro e w' ⟨⟨t',rfl,ht'⟩,rfl⟩
 exact⟨by rw[ht.one ht'],rfl⟩
section
variable {w:World} {F:Nat→Prop} {bf:Nat} {s:List Nd}
theorem Zeq (bf:Nat) (a0 a1 b0 b1:Int) (u:Value)
 (hA:∀ W,Below w.heap.size w W→Calls Tryz.prog 98 #[ptr bf,.agg #[.int .i64 a0,.int .i64 a1]] W fun e w'=>e=.returned (.iface 145 u)∧Below W.heap.size W w') :
 Calls Tryz.prog 62 #[ptr bf,.agg #[.int .i64 a0,.int .i64 a1],.agg #[.int .i64 b0,.int .i64 b1]] w fun e w'=>e=.returned (.tuple #[.int .i64 0,.iface 145 u])∧Below w.heap.size w w':=by
 have CA:=hid (hA _ (ZM w a0 a1 b0 b1))
 have hz:=(ZM w a0 a1 b0 b1).size
 have HT:=hid (ZM w a0 a1 b0 b1)
 clear hA
 go_enter Tryz.func62,Tryz.ntmps62
 go_wp2_with (go_at_call 98;refine CA.out.mono ?_;rintro e w1 ⟨rfl,hb1⟩)
 go_ret2
 exact⟨rfl,HT.out.trans (hb1.mono HT.out.size)⟩
theorem Zer (bf:Nat) (a0 a1 b0 b1:Int) (u:Value)
 (hA:∀ W,Below w.heap.size w W→Calls Tryz.prog 98 #[ptr bf,.agg #[.int .i64 a0,.int .i64 a1]] W fun e w'=>e=.returned .nilIface∧Below W.heap.size W w')
 (hB:∀ W,Below w.heap.size w W→Calls Tryz.prog 98 #[ptr bf,.agg #[.int .i64 b0,.int .i64 b1]] W fun e w'=>e=.returned (.iface 145 u)∧Below W.heap.size W w') :
 Calls Tryz.prog 62 #[ptr bf,.agg #[.int .i64 a0,.int .i64 a1],.agg #[.int .i64 b0,.int .i64 b1]] w fun e w'=>e=.returned (.tuple #[.int .i64 0,.iface 145 u])∧Below w.heap.size w w':=by
 have CA:=hid (hA _ (ZM w a0 a1 b0 b1))
 have CB:=hid hB
 have HT:=hid (ZM w a0 a1 b0 b1)
 clear hA hB
 go_enter Tryz.func62,Tryz.ntmps62
 go_wp2_with (first
  | (go_at_call 98;refine CA.out.mono ?_;clear CA;rintro e w1 ⟨rfl,hb1⟩
     obtain⟨q1,q2⟩:=YH hb1
     have p0:w1.cell? ⟨w.heap.size,0,none⟩=some (.int .i64 a0):=Za q1 0
     have p1:w1.cell? ⟨w.heap.size,1,none⟩=some (.int .i64 a1):=Za q1 1
     have p2:w1.cell? ⟨w.heap.size+1,0,none⟩=some (.int .i64 b0):=Za q2 0
     have p3:w1.cell? ⟨w.heap.size+1,1,none⟩=some (.int .i64 b1):=Za q2 1
     have HB1:=hid (HT.out.trans (hb1.mono HT.out.size))
     clear hb1 q1 q2)
  | (go_at_call 98;refine(CB.out _ HB1.out).mono ?_;rintro e w2 ⟨rfl,hb2⟩))
 go_ret2
 exact⟨rfl,HB1.out.trans (hb2.mono HB1.out.size)⟩
theorem Zcb (wf:WF s) (hD:PFor w F bf s) (n k n2 k2:Nat) (tf:Nat→Nat) (htf:∀ m,m < s.length→Zm s m (tf m)) (hn:n < s.length) (hn2:n2 < s.length) (hne:tf n≠tf n2)
 (hA:∀ W,Below w.heap.size w W→Calls Tryz.prog 98 #[ptr bf,.agg #[.int .i64 (n:Int),.int .i64 (k:Int)]] W fun e w'=>e=.returned .nilIface∧Below W.heap.size W w')
 (hB:∀ W,Below w.heap.size w W→Calls Tryz.prog 98 #[ptr bf,.agg #[.int .i64 (n2:Int),.int .i64 (k2:Int)]] W fun e w'=>e=.returned .nilIface∧Below W.heap.size W w') :
 Calls Tryz.prog 62 #[ptr bf,.agg #[.int .i64 (n:Int),.int .i64 (k:Int)],.agg #[.int .i64 (n2:Int),.int .i64 (k2:Int)]] w fun e w'=>e=.returned (.tuple #[.int .i64 0,ZO n2 9])∧Below w.heap.size w w':=by
 obtain⟨bn,cap,pn,hD⟩:=hD
 have CA:=hid (hA _ (ZM w n k n2 k2))
 have CB:=hid hB
 have HT:=hid (ZM w n k n2 k2)
 have CT:=hid (fun W (hb:Below w.heap.size w W) m (hm:m<s.length) q=>Za3 (w:=W.drewN q) wf (hD.below (Zj hb q)) (htf m hm) hm)
 have hneI:¬ (tf n:Int)=(tf n2:Int):=fun e=>hne (by omega)
 clear hA hB hD wf htf
 go_enter Tryz.func62,Tryz.ntmps62
 go_wp2_with (first
  | (go_at_call 98;refine CA.out.mono ?_;clear CA;rintro e w1 ⟨rfl,hb1⟩
     obtain⟨q1,q2⟩:=YH hb1
     have p0:w1.cell? ⟨w.heap.size,0,none⟩=some (.int .i64 (n:Int)):=Za q1 0
     have p1:w1.cell? ⟨w.heap.size,1,none⟩=some (.int .i64 (k:Int)):=Za q1 1
     have p2:w1.cell? ⟨w.heap.size+1,0,none⟩=some (.int .i64 (n2:Int)):=Za q2 0
     have p3:w1.cell? ⟨w.heap.size+1,1,none⟩=some (.int .i64 (k2:Int)):=Za q2 1
     have HB1:=hid (HT.out.trans (hb1.mono HT.out.size))
     have H1:=hid hb1
     clear hb1 q1 q2)
  | (go_at_call 98;refine(CB.out _ HB1.out).mono ?_;clear CB;rintro e w2 ⟨rfl,hb2⟩
     obtain⟨q1,q2⟩:=YH (H1.out.trans (hb2.mono H1.out.size))
     have r0:w2.cell? ⟨w.heap.size,0,none⟩=some (.int .i64 (n:Int)):=Za q1 0
     have r1:w2.cell? ⟨w.heap.size,1,none⟩=some (.int .i64 (k:Int)):=Za q1 1
     have r2:w2.cell? ⟨w.heap.size+1,0,none⟩=some (.int .i64 (n2:Int)):=Za q2 0
     have r3:w2.cell? ⟨w.heap.size+1,1,none⟩=some (.int .i64 (k2:Int)):=Za q2 1
     have HB2:=hid (HB1.out.trans (hb2.mono HB1.out.size))
     clear hb2 q1 q2 p0 p1 p2 p3 HB1))
 go_quiet ((go_at_call 99;exact Calls.quiet_of_same (CT.out w2 HB2.out _ (by first|exact hn|exact hn2) _)))
 have hbne:((tf n:Int) != (tf n2:Int))=true:=by simpa using hneI
 rw[hbne]
 go_wp2
 go_region
 go_wp2
 go_ret2
 exact⟨rfl,Zj HB2.out _⟩
theorem Zey {bn cap:Nat} {pn:List PN} (wf:WF s) (hD:Zh w F bf bn cap pn s) (n k n2 k2:Nat) (hn:n < s.length) (hn2:n2 < s.length) :
 Calls Tryz.prog 100 #[ptr bf,.agg #[.int .i64 (n:Int),.int .i64 (k:Int)],.agg #[.int .i64 (n2:Int),.int .i64 (k2:Int)]] w fun e w'=>∃ t t2 l l2,Way s t n l∧Zm s n t∧Way s t2 n2 l2∧Zm s n2 t2∧e=.returned (.int .i64 (lexC (l++[k]) (l2++[k2])))∧Below w.heap.size w w':=by
 have HB2:Hid (Below w.heap.size w ((w.alloc (.cells #[.int .i64 (n:Int),.int .i64 (k:Int)] 37)).alloc (.cells #[.int .i64 (n2:Int),.int .i64 (k2:Int)] 37))):=ZM w n k n2 k2
 obtain⟨q1,q2⟩:=YH (Below.refl (ptwo w n k n2 k2).heap.size (ptwo w n k n2 k2))
 have q1':((w.alloc (.cells #[.int .i64 (n:Int),.int .i64 (k:Int)] 37)).alloc (.cells #[.int .i64 (n2:Int),.int .i64 (k2:Int)] 37)).heap[w.heap.size]?=_:=q1
 have q2':((w.alloc (.cells #[.int .i64 (n:Int),.int .i64 (k:Int)] 37)).alloc (.cells #[.int .i64 (n2:Int),.int .i64 (k2:Int)] 37)).heap[w.heap.size+1]?=_:=q2
 clear q1 q2
 obtain⟨w2,hw2⟩:∃ w2,(w.alloc (.cells #[.int .i64 (n:Int),.int .i64 (k:Int)] 37)).alloc (.cells #[.int .i64 (n2:Int),.int .i64 (k2:Int)] 37)=w2:=⟨_,rfl⟩
 rw[hw2] at HB2 q1' q2'
 have r0:w2.cell? ⟨w.heap.size,0,none⟩=some (.int .i64 (n:Int)):=Za q1' 0
 have r1:w2.cell? ⟨w.heap.size,1,none⟩=some (.int .i64 (k:Int)):=Za q1' 1
 have r2:w2.cell? ⟨w.heap.size+1,0,none⟩=some (.int .i64 (n2:Int)):=Za q2' 0
 have r3:w2.cell? ⟨w.heap.size+1,1,none⟩=some (.int .i64 (k2:Int)):=Za q2' 1
 have CP:=hid (fun W (hb:Below w.heap.size w W) m (hm:m<s.length) kk=>ZiC (w:=W) wf (hD.below hb) m kk hm)
 have RC:=hid (And.intro r0 (And.intro r1 (And.intro r2 r3)))
 have hz2:=HB2.out.size
 have hbx:w.heap.size+1<w2.heap.size:=World.block_lt_of_cell? w2 _ r2
 have HW2:=hid hw2
 clear hD wf q1' q2' hw2
 go_enter Tryz.func100,Tryz.ntmps100
 go_wp2
 rw[HW2.out]
 clear HW2
 go_region_held3 (fun w'=>w'.cell? ⟨w.heap.size,0,none⟩=some (.int .i64 (n:Int))∧w'.cell? ⟨w.heap.size,1,none⟩=some (.int .i64 (k:Int))∧w'.cell? ⟨w.heap.size+1,0,none⟩=some (.int .i64 (n2:Int))∧w'.cell? ⟨w.heap.size+1,1,none⟩=some (.int .i64 (k2:Int))) (first|exact KEEP2.out|exact KEEP1.out|go_keep) (first
  | (go_at_call 152
     refine(ZhQ l l2 k k2 g3 c3 g4 c4 _ HC4.out HC5.out len3 len4).mono ?_
     rintro e w5 ⟨rfl,hw5⟩
     replace hw5:=hw5.symm
     subst hw5)
  | (go_at_call 153
     have hg:=HC3.out
     refine(CP.out _ (by first|exact HB3.out|exact Zj HB3.out _|exact HB3.out.drew) n2 hn2 k2).mono ?_
     rintro e w4 ⟨t4,l2,g4,c4,rfl,way4,top4,len4,hg5,hg6,hcells4,hb4⟩
     have HC4:Hid (∀ (j x:Nat),(l++[k])[j]?=some x→w4.cell? ⟨g3,j,none⟩=some (.int .i64 (x:Int))):=fun j x hx=>(hb4.cell (p:=⟨g3,j,none⟩) (by first|exact hg4|(simp;exact hg4))).trans (HC3.out j x hx)
     have HC5:=hid hcells4
     have HB4:Hid (Below w.heap.size w w4):=(by first|exact HB3.out.trans (hb4.mono HB3.out.size)|exact(Zj HB3.out _).trans (hb4.mono HB3.out.size))
     have KEEP2:Hid (w4.cell? ⟨w.heap.size,0,none⟩=some (.int .i64 (n:Int))∧w4.cell? ⟨w.heap.size,1,none⟩=some (.int .i64 (k:Int))∧w4.cell? ⟨w.heap.size+1,0,none⟩=some (.int .i64 (n2:Int))∧w4.cell? ⟨w.heap.size+1,1,none⟩=some (.int .i64 (k2:Int))) :=
      ⟨(hb4.cell (p:=⟨w.heap.size,0,none⟩) (by simp;omega)).trans KEEP1.out.1,(hb4.cell (p:=⟨w.heap.size,1,none⟩) (by simp;omega)).trans KEEP1.out.2.1,(hb4.cell (p:=⟨w.heap.size+1,0,none⟩) (by simp;omega)).trans KEEP1.out.2.2.1,(hb4.cell (p:=⟨w.heap.size+1,1,none⟩) (by simp;omega)).trans KEEP1.out.2.2.2⟩
     have W4:=hid (And.intro way4 top4)
     clear way4 top4 hcells4 hb4 hg)
  | (go_at_call 153
     refine(CP.out _ (by first|exact Zj HB2.out _|exact HB2.out|exact HB2.out.drew) n hn k).mono ?_
     rintro e w3 ⟨t3,l,g3,c3,rfl,way3,top3,len3,hg3,hg4,hcells3,hb3⟩
     have HC3:=hid hcells3
     have HB3:Hid (Below w.heap.size w w3):=(Zj HB2.out _).trans (hb3.mono HB2.out.size)
     have hz3:w2.heap.size≤w3.heap.size:=hb3.size
     have KEEP1:Hid (w3.cell? ⟨w.heap.size,0,none⟩=some (.int .i64 (n:Int))∧w3.cell? ⟨w.heap.size,1,none⟩=some (.int .i64 (k:Int))∧w3.cell? ⟨w.heap.size+1,0,none⟩=some (.int .i64 (n2:Int))∧w3.cell? ⟨w.heap.size+1,1,none⟩=some (.int .i64 (k2:Int))) :=
      ⟨(hb3.cell (p:=⟨w.heap.size,0,none⟩) (by show w.heap.size<w2.heap.size;omega)).trans RC.out.1,(hb3.cell (p:=⟨w.heap.size,1,none⟩) (by show w.heap.size<w2.heap.size;omega)).trans RC.out.2.1,(hb3.cell (p:=⟨w.heap.size+1,0,none⟩) (by show w.heap.size+1<w2.heap.size;omega)).trans RC.out.2.2.1,(hb3.cell (p:=⟨w.heap.size+1,1,none⟩) (by show w.heap.size+1<w2.heap.size;omega)).trans RC.out.2.2.2⟩
     have W3:=hid (And.intro way3 top3)
     clear way3 top3 hcells3 hb3))
 go_wp2
 go_ret
 obtain⟨way3,top3⟩:=W3.out
 obtain⟨way4,top4⟩:=W4.out
 exact⟨_,_,l,l2,way3,top3,way4,top4,rfl,HB4.out⟩
theorem J8 (wf:WF s) (hD:PFor w F bf s) (n k n2 k2:Nat) (tf:Nat→Nat) (htf:∀ m,m < s.length→Zm s m (tf m)) (hn:n < s.length) (hn2:n2 < s.length) (hee:tf n=tf n2)
 (hA:∀ W,Below w.heap.size w W→Calls Tryz.prog 98 #[ptr bf,.agg #[.int .i64 (n:Int),.int .i64 (k:Int)]] W fun e w'=>e=.returned .nilIface∧Below W.heap.size W w')
 (hB:∀ W,Below w.heap.size w W→Calls Tryz.prog 98 #[ptr bf,.agg #[.int .i64 (n2:Int),.int .i64 (k2:Int)]] W fun e w'=>e=.returned .nilIface∧Below W.heap.size W w') :
 Calls Tryz.prog 62 #[ptr bf,.agg #[.int .i64 (n:Int),.int .i64 (k:Int)],.agg #[.int .i64 (n2:Int),.int .i64 (k2:Int)]] w fun e w'=>∃ l l2,Way s (tf n) n l∧Way s (tf n) n2 l2∧e=.returned (.tuple #[.int .i64 (lexC (l++[k]) (l2++[k2])),.nilIface])∧Below w.heap.size w w':=by
 obtain⟨bn,cap,pn,hD⟩:=hD
 have CA:=hid (hA _ (ZM w n k n2 k2))
 have CB:=hid hB
 have HT:=hid (ZM w n k n2 k2)
 have CT:=hid (fun W (hb:Below w.heap.size w W) m (hm:m<s.length) q=>Za3 (w:=W.drewN q) wf (hD.below (Zj hb q)) (htf m hm) hm)
 have CO:=hid (fun W (hb:Below w.heap.size w W)=>Zey (w:=W) wf (hD.below hb) n k n2 k2 hn hn2)
 have HTF:=hid htf
 clear hA hB hD wf htf
 go_enter Tryz.func62,Tryz.ntmps62
 go_wp2_with (first
  | (go_at_call 98;refine CA.out.mono ?_;clear CA;rintro e w1 ⟨rfl,hb1⟩
     obtain⟨q1,q2⟩:=YH hb1
     have p0:w1.cell? ⟨w.heap.size,0,none⟩=some (.int .i64 (n:Int)):=Za q1 0
     have p1:w1.cell? ⟨w.heap.size,1,none⟩=some (.int .i64 (k:Int)):=Za q1 1
     have p2:w1.cell? ⟨w.heap.size+1,0,none⟩=some (.int .i64 (n2:Int)):=Za q2 0
     have p3:w1.cell? ⟨w.heap.size+1,1,none⟩=some (.int .i64 (k2:Int)):=Za q2 1
     have HB1:=hid (HT.out.trans (hb1.mono HT.out.size))
     have H1:=hid hb1
     clear hb1 q1 q2)
  | (go_at_call 98;refine(CB.out _ HB1.out).mono ?_;clear CB;rintro e w2 ⟨rfl,hb2⟩
     obtain⟨q1,q2⟩:=YH (H1.out.trans (hb2.mono H1.out.size))
     have r0:w2.cell? ⟨w.heap.size,0,none⟩=some (.int .i64 (n:Int)):=Za q1 0
     have r1:w2.cell? ⟨w.heap.size,1,none⟩=some (.int .i64 (k:Int)):=Za q1 1
     have r2:w2.cell? ⟨w.heap.size+1,0,none⟩=some (.int .i64 (n2:Int)):=Za q2 0
     have r3:w2.cell? ⟨w.heap.size+1,1,none⟩=some (.int .i64 (k2:Int)):=Za q2 1
     have HB2:=hid (HB1.out.trans (hb2.mono HB1.out.size))
     clear hb2 q1 q2 p0 p1 p2 p3 HB1))
 go_quiet ((go_at_call 99;exact Calls.quiet_of_same (CT.out w2 HB2.out _ (by first|exact hn|exact hn2) _)))
 go_wp2_with (go_at_call 100;refine(CO.out _ (Zj HB2.out _)).mono ?_;rintro e w3 ⟨t3,t4,l,l2,way3,top3,way4,top4,rfl,hb3⟩
              have W3:=hid (And.intro way3 top3)
              have W4:=hid (And.intro way4 top4)
              clear way3 top3 way4 top4)
 go_ret2
 obtain⟨way3,top3⟩:=W3.out
 obtain⟨way4,top4⟩:=W4.out
 obtain rfl:=top3.one (HTF.out n hn)
 obtain rfl:=top4.one (HTF.out n2 hn2)
 refine⟨l,l2,way3,?_,rfl,(Zj HB2.out _).trans (hb3.mono (Zj HB2.out _).size)⟩
 rw[hee];exact way4
end
end
section
open Go.RowKit Go.Lib
theorem ZaF {w:World} {F:Nat→Prop} {bx:Nat} {st:St} (hg:GG w) (hP:Zv w F bx st) {r:Int} {v:Value} (hv:v=.nilIface∨∃ u,v=.iface 145 u) (p0 p1 q0 q1:Int) {a y:Int} (hE:Z2 v a y)
 (hT:∀ (W:World) (F':Nat→Prop) (bf:Nat),PFor W F' bf st.n→Calls Tryz.prog 62 #[ptr bf,.agg #[.int .i64 p0,.int .i64 p1],.agg #[.int .i64 q0,.int .i64 q1]] W fun e w'=>e=.returned (.tuple #[.int .i64 r,v])∧Below W.heap.size W w') :
 Calls Tryz.prog 26 #[ptr bx,.agg #[.int .i64 p0,.int .i64 p1],.agg #[.int .i64 q0,.int .i64 q1]] w (ZY F w bx st (.tuple #[.int .i64 r,errV a y])):=by
 have hP':=hP
 obtain⟨bf,bl,sv,hD⟩:=hP
 have C:=hid (fun W (hb:Below w.heap.size w W)=>hT W _ _ (hD.nodes.below hb))
 have hlx:=Zc hD.doc
 have c0:w.cell? ⟨bx,0,none⟩=some (ptr bf):=Za hD.doc 0
 have E:=hid (fun w1 (hb:Below w.heap.size w w1)=>hE w1 (hg.below hb).1)
 have HP:=hid hP'
 have HT:=hid (ZM w p0 p1 q0 q1)
 clear hD hT hg hE hP'
 rcases hv with rfl|⟨u,rfl⟩
 all_goals
  go_enter Tryz.func26,Tryz.ntmps26
  go_wp2
  go_region_held3 (fun w'=>w'.cell? ⟨bx,0,none⟩=some (ptr bf)∧w'.cell? ⟨w.heap.size,0,none⟩=some (.int .i64 p0)∧w'.cell? ⟨w.heap.size,1,none⟩=some (.int .i64 p1)∧w'.cell? ⟨w.heap.size+1,0,none⟩=some (.int .i64 q0)∧w'.cell? ⟨w.heap.size+1,1,none⟩=some (.int .i64 q1)) (first|exact KEEP1.out|go_keep) ((
   go_at_call 62
   refine(C.out _ (by first|exact HT.out|exact HT.out.drew|exact Zj HT.out _)).mono ?_
   rintro e w1 ⟨rfl,hb⟩
   have hb':Below (ptwo w p0 p1 q0 q1).heap.size (ptwo w p0 p1 q0 q1) w1:=⟨hb.os,hb.tape,hb.output,hb.size,hb.block⟩
   obtain⟨k1,k2⟩:=YH hb'
   have HB1:=hid (HT.out.trans (hb'.mono HT.out.size))
   have KEEP1:Hid (w1.cell? ⟨bx,0,none⟩=some (ptr bf)∧w1.cell? ⟨w.heap.size,0,none⟩=some (.int .i64 p0)∧w1.cell? ⟨w.heap.size,1,none⟩=some (.int .i64 p1)∧w1.cell? ⟨w.heap.size+1,0,none⟩=some (.int .i64 q0)∧w1.cell? ⟨w.heap.size+1,1,none⟩=some (.int .i64 q1)) :=
    ⟨(HB1.out.cell (p:=⟨bx,0,none⟩) hlx).trans c0,Za k1 0,Za k1 1,Za k2 0,Za k2 1⟩
   have E1:=hid (E.out w1 HB1.out)
   clear hb hb' k1 k2))
  go_wp2_with (go_at_call 46;refine E1.out.mono ?_;rintro e w2 ⟨rfl,hb2⟩)
  go_ret2
  have hb:=HB1.out.trans (hb2.mono HB1.out.size)
  exact⟨rfl,Zb.of_below hb,(HP.out.keeps (Zb.of_below (F:=fun _=>False) hb) (fun _ _ e=>e)).wider (fun b h=>.inl h)⟩
theorem ZdU {s:List Nd} (wf:WF s) (n k a y:Int) (hf:Zs s n k=(a,y)) (hy:y≠0) :
 ∃ u,Z2 (.iface 145 u) a y∧∀ (W:World) (F:Nat→Prop) (bf bn cap:Nat) (pn:List PN),Zh W F bf bn cap pn s→Calls Tryz.prog 98 #[ptr bf,.agg #[.int .i64 n,.int .i64 k]] W fun e w'=>e=.returned (.iface 145 u)∧Below W.heap.size W w':=by
 cases hb:isB s n with
 | false =>
   have e:Zs s n k=(n,1):=by simp[Zs,hb]
   rw[e] at hf
   cases hf
   exact⟨_,Yi n 1 (by decide),fun W F bf bn cap pn h=>ZdX h n k hb⟩
 | true =>
   obtain⟨h1,h2⟩:=Y2 hb
   obtain⟨m,rfl⟩:∃ m:Nat,n=(m:Int):=⟨n.toNat,by omega⟩
   have hm:m<s.length:=by omega
   obtain⟨x,hx⟩:∃ x,s[m]?=some x:=⟨_,List.getElem?_eq_getElem hm⟩
   have hch:=wf.chars m x hx
   by_cases hk:k<0∨(ZI x:Int)<k
   · have e:Zs s m k=((m:Int),3):=by simp[Zs,hb,ZE hx,hk]
     rw[e] at hf
     cases hf
     cases ht:x.t with
     | true =>
       rw[Yl ht] at hk
       exact⟨_,JO m k,fun W F bf bn cap pn h=>ZdZ h m k x hx ht hch.2 (by unfold lots;omega) hk⟩
     | false =>
       rw[Yg ht] at hk
       exact⟨_,Yi m 3 (by decide),fun W F bf bn cap pn h=>ZdW h m k x hx ht hk⟩
   · have e:Zs s m k=(0,0):=by simp[Zs,hb,ZE hx,hk]
     rw[e] at hf
     cases hf
     exact absurd rfl hy
theorem Jk {s:List Nd} (wf:WF s) (n k:Int) (a y:Int) (hf:Zs s n k=(a,y)) (hy:y=0) :
 ∃ m q:Nat,n=m∧k=q∧m<s.length∧q≤Zn s m∧Zs s m q=(0,0)∧∀ (W:World) (F:Nat→Prop) (bf bn cap:Nat) (pn:List PN),Zh W F bf bn cap pn s→Calls Tryz.prog 98 #[ptr bf,.agg #[.int .i64 (m:Int),.int .i64 (q:Int)]] W fun e w'=>e=.returned .nilIface∧Below W.heap.size W w':=by
 cases hb:isB s n with
 | false =>
   have e:Zs s n k=(n,1):=by simp[Zs,hb]
   rw[e] at hf
   cases hf
   cases hy
 | true =>
   obtain⟨h1,h2⟩:=Y2 hb
   obtain⟨m,rfl⟩:∃ m:Nat,n=(m:Int):=⟨n.toNat,by omega⟩
   have hm:m<s.length:=by omega
   obtain⟨x,hx⟩:∃ x,s[m]?=some x:=⟨_,List.getElem?_eq_getElem hm⟩
   have hch:=wf.chars m x hx
   by_cases hk:k<0∨(ZI x:Int)<k
   · have e:Zs s m k=((m:Int),3):=by simp[Zs,hb,ZE hx,hk]
     rw[e] at hf
     cases hf
     cases hy
   · obtain⟨q,rfl⟩:∃ q:Nat,k=(q:Int):=⟨k.toNat,by omega⟩
     have hk':q≤ZI x:=by omega
     have e:Zs s m q=(0,0):=by simp[Zs,hb,ZE hx,hk']
     exact⟨m,q,rfl,rfl,hm,by rw[ZE hx];omega,e,fun W F bf bn cap pn h=>place_ok h m q x hx hch.2 (by unfold lots;omega) (by omega)⟩
theorem Jt (l:List (Nat × Nat)) (p:Nat × Nat):∃ q,ZJ l p q:=by
 induction l with
 | nil=>exact⟨-1,.inr ⟨rfl,by simp⟩⟩
 | cons a l ih =>
   by_cases h:p=a
   · exact⟨0,.inl ⟨0,rfl,by simp[h],by simp⟩⟩
   · obtain⟨q,hq|hq⟩:=ih
     · obtain⟨m,h1,h2,h3⟩:=hq
       exact⟨(m+1:Nat),.inl ⟨m+1,rfl,by simpa using h2,by simp[h3,h]⟩⟩
     · exact⟨-1,.inr ⟨rfl,by simp[hq.2,h]⟩⟩
end
section
theorem Zgk (C:List Nat) {P Q:List Nat} (h:leP P Q):leP (C++P) (C++Q):=by
 induction C with
 | nil=>exact h
 | cons a C ih=>exact ZbP ih
theorem ZeL {s:List Nd} (wf:WF s) {t n:Nat} {l:List Nat} (w:Way s t n l):∃ q,climb s q n=(t:Int):=by
 induction w with
 | top=>exact⟨0,rfl⟩
 | @down q c i l y w hq hi ih =>
   obtain⟨m,hm⟩:=ih
   obtain⟨z,hz,hzp⟩:=wf.kid q y hq c (List.mem_of_getElem? hi)
   have h1:climb s 1 c=(q:Int):=by simp[climb,Zw,hz,hzp]
   exact⟨1+m,by rw[YG h1 m];exact hm⟩
theorem way_lt {s:List Nd} (wf:WF s) {t n:Nat} {l:List Nat} (w:Way s t n l) (ht:t < s.length):n < s.length:=by
 cases w with
 | top=>exact ht
 | @down q c i l y w hq hi =>
   obtain⟨z,hz,_⟩:=wf.kid q y hq n (List.mem_of_getElem? hi)
   exact(List.getElem?_eq_some_iff.1 hz).1
theorem YM.still {s s':List Nd} {t:Nat} {f:Mvf} (hp:∀ (n k:Nat) (l:List Nat),PlOk s n k→Way s t n l→f n k=((n:Int),(k:Int))∧PlOk s' n k) (top:∃ x,s'[t]?=some x∧x.p = -1)
 (h:∀ (q:Nat) (l:List Nat) (y:Nd),Way s t q l→s[q]?=some y→∃ y',s'[q]?=some y'∧y'.ks=y.ks):YM s s' t t f (fun P=>P) where
 mono:=fun P Q _ _ h=>.inr h
 top:=top
 one:=fun n k l hk w=>⟨n,k,l,(hp n k l hk w).1,(hp n k l hk w).2,w.same h,rfl⟩
theorem Zek {s:List Nd} {z:Sp} (nd:Nd) (wf:WF s) (h:SpIs s z):SpIs (s++[nd]) z:=by
 obtain⟨n,k,n2,k2,t,l,l2,rfl,h1,h2,ht,w1,w2,hle⟩:=h
 have same:∀ (q:Nat) (y:Nd),s[q]?=some y→(s++[nd])[q]?=some y:=fun q y hq=>by
  rw[List.getElem?_append_left (List.getElem?_eq_some_iff.1 hq).1];exact hq
 have hw:∀ {n l},Way s t n l→Way (s++[nd]) t n l:=fun w=>w.same (fun q l y _ hq=>⟨y,same q y hq,rfl⟩)
 refine⟨n,k,n2,k2,t,l,l2,rfl,h1.push nd,h2.push nd,?_,hw w1,hw w2,hle⟩
 obtain⟨⟨m,hm⟩,x,hx,hp⟩:=ht
 refine⟨?_,x,same t x hx,hp⟩
 have key:∀ (m n:Nat),n<s.length→climb s m n=(t:Int)→∃ m',climb (s++[nd]) m' n=(t:Int):=by
  intro m
  induction m with
  | zero=>intro n _ h;exact⟨0,by simpa[climb] using h⟩
  | succ m ih =>
    intro n hn h
    have hx:=List.getElem?_eq_getElem hn
    rcases wf.par n _ hx with hp|⟨i,y,hp,hy,hc⟩
    · exfalso
      have h1:climb s 1 n = -1:=by simp[climb,Zw,hx,hp]
      have h2:=XL (s:=s) (j:=1) (n:=n) (by rw[h1];decide) m
      rw[Nat.add_comm] at h2
      omega
    · have h1:climb s 1 n=(i:Int):=by simp[climb,Zw,hx,hp]
      have h2:=YG h1 m
      rw[Nat.add_comm] at h2
      rw[h2] at h
      obtain⟨m',hm'⟩:=ih i (List.getElem?_eq_some_iff.1 hy).1 h
      have h3:climb (s++[nd]) 1 n=(i:Int):=by simp[climb,Zw,same n _ hx,hp]
      exact⟨1+m',by rw[YG h3 m'];exact hm'⟩
 obtain⟨n0,k0,e1,e2,hn,_⟩:=h1
 exact key m n (by omega) hm
section
variable {s:List Nd} {i j k:Nat} {x y:Nd}
def gIns (k:Nat):List Nat→List Nat
 | []=>[]
 | a::r=>(if 2*k<a then a+2 else a)::r
theorem ZfM (k:Nat) (R R':List Nat) (h:lexN R R'):leP (gIns k R) (gIns k R'):=by
 cases R' with
 | nil=>exact absurd h (fun h=>Xw h)
 | cons b R' =>
   cases R with
   | nil=>exact .inr .nil
   | cons a R =>
     rcases YL h with hab|⟨rfl,h'⟩
     · refine .inr (.rel ?_)
       show (if 2*k<a then a+2 else a)<(if 2*k<b then b+2 else b)
       split <;> split <;> omega
     · exact .inr (.cons h')
theorem Zdl (ks:List Nat) (k c d j:Nat) (h:ks[c]?=some d):(ks.take k++j::ks.drop k)[if k≤c then c+1 else c]?=some d:=by
 have hc:=(List.getElem?_eq_some_iff.1 h).1
 by_cases hk:k≤c
 · rw[if_pos hk,List.getElem?_append_right (by simp;omega)]
   have e:c+1 - (ks.take k).length=(c - k)+1:=by simp;omega
   rw[e,List.getElem?_cons_succ,List.getElem?_drop]
   rw[show k+(c - k)=c by omega]
   exact h
 · rw[if_neg hk,List.getElem?_append_left (by simp;omega),List.getElem?_take,if_pos (by omega)]
   exact h
theorem Zgx (wf:WF s) (hI:YI s i j x y) (hw:Lim (fun c=>ZT s c (i:Int) (j:Int)) false) (hk:k≤x.ks.length) (hij:i≠j) (t:Nat) (ht:∃ z,s[t]?=some z∧z.p = -1) :
 ∃ t' E,YM s ((s.set i { x with ks:=x.ks.take k++j::x.ks.drop k }).set j { y with p:=i }) t t' (Ze i k 1) E:=by
 obtain⟨hx,hy,hxt,hj0,hyp⟩:=hI
 have hil:=(List.getElem?_eq_some_iff.1 hx).1
 have hjl:=(List.getElem?_eq_some_iff.1 hy).1
 obtain⟨h,B,u⟩:=wf.up
 obtain⟨ti,hti⟩:=XC wf i hil
 obtain⟨li,wi⟩:=X0 wf hti hil
 obtain⟨xt,hxt',hpt⟩:=hti.2
 have hpl:∀ (a b:Int),PlOk s a b→PlOk ((s.set i { x with ks:=x.ks.take k++j::x.ks.drop k }).set j { y with p:=i }) (Ze i k 1 a b).1 (Ze i k 1 a b).2:=fun a b hp=>hp.insert hx hy hij hxt hk
 have gi:((s.set i { x with ks:=x.ks.take k++j::x.ks.drop k }).set j { y with p:=i })[i]?=some { x with ks:=x.ks.take k++j::x.ks.drop k }:=by
  rw[List.getElem?_set_ne (fun e=>hij e.symm),List.getElem?_set_self hil]
 have gj:((s.set i { x with ks:=x.ks.take k++j::x.ks.drop k }).set j { y with p:=i })[j]?=some { y with p:=i }:=by
  rw[List.getElem?_set_self (by simpa using hjl)]
 have go:∀ q,q≠i→q≠j→((s.set i { x with ks:=x.ks.take k++j::x.ks.drop k }).set j { y with p:=i })[q]?=s[q]?:=fun q h1 h2=>by
  rw[List.getElem?_set_ne (fun e=>h2 e.symm),List.getElem?_set_ne (fun e=>h1 e.symm)]
 have same:∀ (q:Nat) (z:Nd),q≠i→s[q]?=some z→∃ z',((s.set i { x with ks:=x.ks.take k++j::x.ks.drop k }).set j { y with p:=i })[q]?=some z'∧z'.ks=z.ks:=fun q z hq hz=>by
  by_cases hqj:q=j
  · subst hqj
    rw[hy] at hz
    cases hz
    exact⟨_,gj,rfl⟩
  · exact⟨z,by rw[go q hq hqj];exact hz,rfl⟩
 have notin:∀ l,¬ Way s j i l:=fun l w=>by
  obtain⟨q,hq⟩:=ZeL wf w
  have:=(Zcj u q i j hil hq).unique hw
  cases this
 have htij:ti≠j:=fun e=>by subst e;exact notin li wi
 have topi:∃ z,((s.set i { x with ks:=x.ks.take k++j::x.ks.drop k }).set j { y with p:=i })[ti]?=some z∧z.p = -1:=by
  by_cases e:ti=i
  · subst e
    rw[hx] at hxt'
    cases hxt'
    exact⟨_,gi,hpt⟩
  · exact⟨xt,by rw[go ti e htij];exact hxt',hpt⟩
 have hway:∀ {n l},Way s ti n l→∃ l',Way ((s.set i { x with ks:=x.ks.take k++j::x.ks.drop k }).set j { y with p:=i }) ti n l'∧enc l'=under (enc li) (gIns k) (enc l):=fun w =>
  Way.moved wf ⟨xt,hxt',hpt⟩ wi (fun _=>False) (fun c=>if k≤c then c+1 else c) rfl (fun a r e=>rfl)
   (fun c d z _ _ _=>by
     show [if 2*k<2*c+1 then 2*c+1+2 else 2*c+1]=[2*(if k≤c then c+1 else c)+1]
     by_cases hc:k≤c
     · rw[if_pos (by omega),if_pos hc]
       exact congrArg (fun a=>[a]) (by omega)
     · rw[if_neg (by omega),if_neg hc])
   (fun c d z hz hd _=>by
     rw[hx] at hz
     cases hz
     exact⟨_,gi,Zdl x.ks k c d j hd⟩)
   (fun q c d z hq hz hd _=>by
     obtain⟨z',h1,h2⟩:=same q z hq hz
     exact⟨z',h1,by rw[h2];exact hd⟩)
   (fun _ _ _ _ _ _ h=>h) w (fun h=>h)
 have hli:∀ {l'},Way ((s.set i { x with ks:=x.ks.take k++j::x.ks.drop k }).set j { y with p:=i }) ti i l'→enc l'=under (enc li) (gIns k) (enc li)→l'=li:=fun w e=>by
  have h3:=Ym (enc li) (gIns k) []
  rw[List.append_nil] at h3
  rw[h3] at e
  exact Y0 (by simpa[gIns] using e)
 by_cases h1:t=ti
 · subst h1
   refine⟨t,under (enc li) (gIns k),⟨fun P Q hP hQ h=>Za4 (ok:=fun _=>True) (fun R R' _ _ h=>ZfM k R R' h) _ P Q (fun _ _=>trivial) (fun _ _=>trivial) h,topi,fun n m l hm w=>?_⟩⟩
   obtain⟨l',w',e'⟩:=hway w
   have hp:=hpl n m hm
   by_cases hn:n=i
   · subst hn
     obtain rfl:=wi.only wf ⟨xt,hxt',hpt⟩ w
     obtain rfl:=hli w' e'
     by_cases hkm:(k:Int)<(m:Int)
     · have e1:Ze n k 1 n m=((n:Int),((m+1:Nat):Int)):=by simp[Ze,hkm]
       rw[e1] at hp
       refine⟨n,m+1,l',e1,hp,w',?_⟩
       rw[Yc,Yc,Ym]
       show enc l'++[2*(m+1)]=enc l'++[if 2*k<2*m then 2*m+2 else 2*m]
       rw[if_pos (by omega)]
       exact congrArg (fun a=>enc l'++[a]) (by omega)
     · have e1:Ze n k 1 n m=((n:Int),(m:Int)):=by simp[Ze,hkm]
       rw[e1] at hp
       refine⟨n,m,l',e1,hp,w',?_⟩
       rw[Yc,Ym]
       show enc l'++[2*m]=enc l'++[if 2*k<2*m then 2*m+2 else 2*m]
       rw[if_neg (by omega)]
   · have e1:Ze i k 1 n m=((n:Int),(m:Int)):=by
      have:¬ (n:Int)=(i:Int):=by omega
      simp[Ze,this]
     rw[e1] at hp
     refine⟨n,m,l',e1,hp,w',?_⟩
     have hne:enc l≠enc li:=fun e=>hn (w.node (by rw[Y0 e];exact wi))
     rw[Yc,Yc,Za5 (fun a r e=>rfl) rfl _ _ _ hne,e']
 · have hni:∀ (q:Nat) (l:List Nat),Way s t q l→q≠i:=fun q l w e=>by
    subst e
    obtain⟨z,hz,hp⟩:=ht
    exact h1 ((YV wf w hz hp).one hti)
   have hsh:∀ (n m:Nat) (l:List Nat),Way s t n l→Ze i k 1 n m=((n:Int),(m:Int)):=fun n m l w=>by
    have:¬ (n:Int)=(i:Int):=by have:=hni n l w;omega
    simp[Ze,this]
   by_cases h2:t=j
   · subst h2
     refine⟨ti,fun P=>enc li++(2*k+1)::P,⟨fun P Q _ _ h=>Zgk _ (ZbP (.inr h)),topi,fun n m l hm w=>?_⟩⟩
     have hp:=hpl n m hm
     rw[hsh n m l w] at hp
     obtain⟨l',w',e'⟩:=hway wi
     obtain rfl:=hli w' e'
     have wj:Way ((s.set i { x with ks:=x.ks.take k++t::x.ks.drop k }).set t { y with p:=i }) ti t (l'++[k]):=.down w' gi (by
      show (x.ks.take k++t::x.ks.drop k)[k]?=some t
      rw[List.getElem?_append_right (by simp;omega)]
      have:k - (x.ks.take k).length=0:=by simp;omega
      rw[this];rfl)
     have wn:=w.same (s':=(s.set i { x with ks:=x.ks.take k++t::x.ks.drop k }).set t { y with p:=i }) (fun q l2 z wq hz=>same q z (hni q l2 wq) hz)
     refine⟨n,m,(l'++[k])++l,hsh n m l w,hp,wj.append wn,?_⟩
     simp[Yc,enc]
   · obtain⟨z,hz,hzp⟩:=ht
     have hti':t≠i:=hni t [] .top
     exact⟨t,_,YM.still (fun n m l hm w=>⟨hsh n m l w,by have:=hpl n m hm;rw[hsh n m l w] at this;exact this⟩) ⟨z,by rw[go t hti' h2];exact hz,hzp⟩ (fun q l y w hq=>same q y (hni q l w) hq)⟩
end
end
end Go.Proofs.YtabogkonklplcaaGreatDoor
