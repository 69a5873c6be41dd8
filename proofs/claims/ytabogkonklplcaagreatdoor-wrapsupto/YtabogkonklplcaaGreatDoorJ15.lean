import Derived.Test.YtabogkonklplcaaGreatDoorJ14
import Derived.Deep.RegionWith
import Derived.Deep.RegionHeld3
namespace Go.Proofs.YtabogkonklplcaaGreatDoor
set_option linter.unusedSimpArgs false
set_option linter.unusedVariables false
set_option maxRecDepth 20000
set_option maxHeartbeats 8000000
section
open Go.RowKit
def ZeW (s:List Nd) (K:Nat) (a b:Nat × Nat) (w:World) (e:Ending) (w':World):Prop :=
 (∃ (t:Nat) (qa qb:Int),Zm s a.1 t∧ZJ (plF s K t) a qa∧ZJ (plF s K t) b qb∧e=.returned (.bool (decide (qa<qb))))∧Below w.heap.size w w'
theorem Zm.lt {s:List Nd} {n t:Nat} (h:Zm s n t):t < s.length:=by
 obtain⟨_,x,hx,_⟩:=h
 exact(List.getElem?_eq_some_iff.1 hx).1
section
variable {F:Nat→Prop} {bd bn cap:Nat} {rn:List RN} {rv:Value} {s:List Nd} {rs:List Sp}
abbrev two (w:World) (a b:Nat × Nat):World:=(w.alloc (.cells #[.int .i64 a.1,.int .i64 a.2] 37)).alloc (.cells #[.int .i64 b.1,.int .i64 b.2] 37)
theorem ZeH (w:World) (a b:Nat × Nat):Below w.heap.size w (two w a b):=((Below.refl _ w).alloc (Nat.le_refl _) _).alloc (by simp) _
theorem two_at (w:World) (a b:Nat × Nat):(two w a b).heap[w.heap.size]?=some (.cells #[.int .i64 a.1,.int .i64 a.2] 37 (0,0))∧(two w a b).heap[w.heap.size+1]?=some (.cells #[.int .i64 b.1,.int .i64 b.2] 37 (0,0)):=by
 constructor
 · have h1:=heap_alloc_new w (.cells #[.int .i64 a.1,.int .i64 a.2] 37)
   have h2:=((Below.refl _ (w.alloc (.cells #[.int .i64 a.1,.int .i64 a.2] 37))).alloc (Nat.le_refl _) (.cells #[.int .i64 b.1,.int .i64 b.2] 37)).block w.heap.size (by simp)
   exact h2.trans h1
 · have:=heap_alloc_new (w.alloc (.cells #[.int .i64 a.1,.int .i64 a.2] 37)) (.cells #[.int .i64 b.1,.int .i64 b.2] 37)
   simpa using this
theorem ZfL {w1 w2:World} {b:Nat} {a0 a1 b0 b1:Value} (hb:b+1 < w1.heap.size) (hB:Below w1.heap.size w1 w2) (c00:w1.cell? ⟨b,0,none⟩=some a0) (c01:w1.cell? ⟨b,1,none⟩=some a1) (c10:w1.cell? ⟨b+1,0,none⟩=some b0) (c11:w1.cell? ⟨b+1,1,none⟩=some b1) :
 w2.cell? ⟨b,0,none⟩=some a0∧w2.cell? ⟨b,1,none⟩=some a1∧w2.cell? ⟨b+1,0,none⟩=some b0∧w2.cell? ⟨b+1,1,none⟩=some b1 :=
 ⟨(hB.cell (p:=⟨b,0,none⟩) (Nat.lt_of_succ_lt hb)).trans c00,(hB.cell (p:=⟨b,1,none⟩) (Nat.lt_of_succ_lt hb)).trans c01,(hB.cell (p:=⟨b+1,0,none⟩) hb).trans c10,(hB.cell (p:=⟨b+1,1,none⟩) hb).trans c11⟩
theorem XD (l:List (Nat × Nat)) (v:Value) (n k:Nat) (w1 w2:World) (hr:w1.ownsRow 0 37 2 v l.length (plV l)) (hbig:l.length < lots) (hb:Below w1.heap.size w1 w2) :
 Calls Tryz.prog 133 #[v,.agg #[.int .i64 n,.int .i64 k]] w2 fun e w3=>∃ q:Int,e=.returned (.int .i64 q)∧ZJ l (n,k) q∧Below w1.heap.size w1 w3:=by
 refine(Zi7 l v n k w2 (ZbT hr hb) hbig).mono ?_
 rintro e w3 ⟨⟨q,he,hq⟩,hb3⟩
 exact⟨q,he,hq,hb.trans (hb3.mono hb.size)⟩
theorem Ze2 (wf:WF s) {h:Nat→Nat} {B:Nat} (u:Up s h B) (n k n2 k2:Nat) (hn:n < s.length) (w:World) (hD:Zf w F bd bn cap rn rv s rs) :
 Calls Tryz.prog 129 #[.pointer (some ⟨bd,0,none⟩),.agg #[.int .i64 n,.int .i64 k],.agg #[.int .i64 n2,.int .i64 k2]] w (ZeW s (B+1) (n,k) (n2,k2) w):=by
 have hD0:=hD.below (ZeH w (n,k) (n2,k2))
 have CT:=hid (Za2 wf hD0 n hn)
 have CP:=hid (fun t ht=>ZbZ wf u (B+1) t ht (by have:=u.le t;omega) _ hD0)
 have HLEN:=hid (fun t ht=>Nat.le_trans (ZaL wf (B+1) t ht) (Nat.mul_le_mul_left 41 (Yr wf (B+1) t ht)))
 have HTB:=hid (ZeH w (n,k) (n2,k2))
 have HTA:=hid (two_at w (n,k) (n2,k2))
 clear hD hD0 wf u
 go_enter Tryz.func129,Tryz.ntmps129
 go_wp2_with (first
  | (go_at_call 128;refine CT.out.mono ?_;rintro e w0 ⟨⟨t,rfl,ht⟩,rfl⟩)
  | (go_at_call 132;refine(CP.out t ht.lt).mono ?_;rintro e w1 ⟨la,lc,rfl,hr1,hb1⟩
     have hq0:=(hb1.block w.heap.size (by simp;omega)).trans HTA.out.1
     have hq1:=(hb1.block (w.heap.size+1) (by simp)).trans HTA.out.2))
 have hsz:w.heap.size+2≤w1.heap.size:=by have:=hb1.size;simpa using this
 have hlen:=HLEN.out t ht.lt
 have hB1:Below w.heap.size w w1:=HTB.out.trans (hb1.mono HTB.out.size)
 obtain⟨L,hL⟩:∃ L,plF s (B+1) t=L:=⟨_,rfl⟩
 rw[hL] at hr1 hlen
 rw[hL]
 have HL:=hid hL
 have hr0:w1.ownsRow 0 37 2 (.slice la L.length lc) L.length (plV L):=Jh hr1 (Nat.zero_le _)
 have c00:w1.cell? ⟨w.heap.size,0,none⟩=some (.int .i64 n):=Za hq0 0
 have c01:w1.cell? ⟨w.heap.size,1,none⟩=some (.int .i64 k):=Za hq0 1
 have c10:w1.cell? ⟨w.heap.size+1,0,none⟩=some (.int .i64 n2):=Za hq1 0
 have c11:w1.cell? ⟨w.heap.size+1,1,none⟩=some (.int .i64 k2):=Za hq1 1
 have hbl:L.length<lots:=by unfold lots;omega
 have CA:=hid (fun w2 (hb:Below w1.heap.size w1 w2)=>XD L (.slice la L.length lc) n k w1 w2 hr0 hbl hb)
 have CB:=hid (fun w2 (hb:Below w1.heap.size w1 w2)=>XD L (.slice la L.length lc) n2 k2 w1 w2 hr0 hbl hb)
 have H4:=hid (fun w2 (hb:Below w1.heap.size w1 w2)=>ZfL (b:=w.heap.size) (by omega) hb c00 c01 c10 c11)
 have HT:=hid ht
 have HB1:=hid hB1
 have HB2:=hid ((Below.refl w1.heap.size w1).drew)
 clear hL hr1 hr0 hb1 hB1 ht hq0 hq1 CT CP HLEN HTB HTA hlen hbl
 go_region_held3 (fun w'=>w'.cell? ⟨w.heap.size,0,none⟩=some (.int .i64 n)∧w'.cell? ⟨w.heap.size,1,none⟩=some (.int .i64 k)∧w'.cell? ⟨w.heap.size+1,0,none⟩=some (.int .i64 n2)∧w'.cell? ⟨w.heap.size+1,1,none⟩=some (.int .i64 k2)) (first|exact H4.out _ HB4.out|exact H4.out _ HB3.out|go_keep) (first
  | (go_at_call 133;refine(CB.out _ HB3.out).mono ?_;rintro e w4 ⟨qb,rfl,hqb,hb4⟩
     have HQB:=hid hqb
     have HB4:=hid hb4
     clear hqb hb4)
  | (go_at_call 133;refine(CA.out _ HB2.out).mono ?_;rintro e w3 ⟨qa,rfl,hqa,hb3⟩
     have HQA:=hid hqa
     have HB3:=hid hb3
     clear hqa hb3))
 all_goals
  go_wp2
  go_ret
  refine⟨⟨t,qa,qb,HT.out,?_,?_,rfl⟩,?_⟩
  · rw[HL.out];exact HQA.out
  · rw[HL.out];exact HQB.out
  · exact HB1.out.trans (HB4.out.mono HB1.out.size)
end
end
section
open Go.RowKit
def Zs (s:List Nd) (n k:Int):Int × Int:=if isB s n=false then (n,1) else if k < 0∨(Zn s n.toNat:Int) < k then (n,3) else (0,0)
section
variable {w:World} {F:Nat→Prop} {bd bn cap:Nat} {rn:List RN} {rv:Value} {s:List Nd} {rs:List Sp}
theorem Yz (hD:Zf w F bd bn cap rn rv s rs) (n k:Int) :
 Calls Tryz.prog 127 #[.pointer (some ⟨bd,0,none⟩),.agg #[.int .i64 n,.int .i64 k]] w fun e w'=>e=.returned (Zi (Zs s n k).1 (Zs s n k).2)∧Below w.heap.size w w':=by
 by_cases hb:isB s n=false
 · have e:Zs s n k=(n,1):=by simp[Zs,hb]
   rw[e]
   exact Zg1 hD n k hb
 · have hb':isB s n=true:=by simpa using hb
   have h0:0≤n∧n<(s.length:Int):=by simpa[isB] using hb'
   obtain⟨m,rfl⟩:=Int.eq_ofNat_of_zero_le h0.1
   have hm:m<s.length:=by omega
   have hx:s[m]?=some s[m]:=List.getElem?_eq_getElem hm
   by_cases hk:k<0∨(ZI s[m]:Int)<k
   · have e:Zs s m k=((m:Int),3):=by simp[Zs,hb',ZE hx,hk]
     rw[e]
     exact Zg0 hD m k _ hx hk
   · have e:Zs s m k=(0,0):=by simp[Zs,hb',ZE hx,hk]
     rw[e]
     obtain⟨q,rfl⟩:=Int.eq_ofNat_of_zero_le (show 0≤k by omega)
     exact Zg2 hD m q _ hx (by omega)
abbrev XY (w:World) (a0 a1 b0 b1:Int):World:=((w.alloc (.cells #[.int .i64 a0,.int .i64 a1] 37)).alloc (.cells #[.int .i64 b0,.int .i64 b1] 37)).alloc (.cells #[.int .i64 0,.int .i64 0] 32)
theorem XZ (w:World) (a0 a1 b0 b1:Int):Below w.heap.size w (XY w a0 a1 b0 b1):=(((Below.refl _ w).alloc (Nat.le_refl _) _).alloc (by simp) _).alloc (by simp;omega) _
theorem Zfm (hD:Zf w F bd bn cap rn rv s rs) (a0 a1 b0 b1 f0 f1:Int) (hf:Zs s a0 a1=(f0,f1)) (h1:f1≠0) :
 Calls Tryz.prog 80 #[.pointer (some ⟨bd,0,none⟩),.agg #[.int .i64 a0,.int .i64 a1],.agg #[.int .i64 b0,.int .i64 b1]] w fun e w'=>e=.returned (.tuple #[.int .i64 0,Zi f0 f1])∧Below w.heap.size w w':=by
 have CF:=hid (Yz (hD.below (XZ w a0 a1 b0 b1)) a0 a1)
 rw[hf] at CF
 have h1b:(f1 == 0)=false:=by simpa using h1
 have HTB:=hid (XZ w a0 a1 b0 b1)
 clear hD
 go_enter Tryz.func80,Tryz.ntmps80
 go_wp2_with (first
  | (go_at_call 127;refine CF.out.mono ?_;rintro e w1 ⟨rfl,hb1⟩
     have hq2:w1.heap[w.heap.size+2]?=some (.cells #[.int .i64 0,.int .i64 0] 32 (0,0)):=by
      rw[hb1.block _ (by simp)]
      have:=heap_alloc_new ((w.alloc (.cells #[.int .i64 a0,.int .i64 a1] 37)).alloc (.cells #[.int .i64 b0,.int .i64 b1] 37)) (.cells #[.int .i64 0,.int .i64 0] 32)
      simpa using this
     have hs1:w.heap.size+3≤w1.heap.size:=by have:=hb1.size;simpa using this
     have HB1:=hid (HTB.out.trans (hb1.mono HTB.out.size))
     have HQ2:=hid hq2
     clear hb1 hq2)
  | (go_at_call 124;refine(Zy f0 f1 _).mono ?_;rintro e w2 ⟨rfl,hb2⟩
     have hf2:w2.heap[w1.heap.size]?=some (.cells #[.int .i64 f0,.int .i64 f1] 32 (0,0)):=(hb2.block _ (by simp)).trans (heap_alloc_new w1 _)
     have hz2:w2.heap[w.heap.size+1+1]?=some (.cells #[.int .i64 0,.int .i64 0] 32 (0,0)) :=
      (hb2.block _ (by simp;omega)).trans ((((Below.refl _ w1).alloc (Nat.le_refl _) _).block _ (by omega)).trans HQ2.out)
     have cf0:w2.cell? ⟨w1.heap.size,0,none⟩=some (.int .i64 f0):=Za hf2 0
     have cf1:w2.cell? ⟨w1.heap.size,1,none⟩=some (.int .i64 f1):=Za hf2 1
     have cz0:w2.cell? ⟨w.heap.size+1+1,0,none⟩=some (.int .i64 0):=Za hz2 0
     have cz1:w2.cell? ⟨w.heap.size+1+1,1,none⟩=some (.int .i64 0):=Za hz2 1
     have fz0:=Zd hz2 0
     have fz1:=Zd hz2 1
     have HB2:=hid ((HB1.out.alloc HB1.out.size _).trans (hb2.mono (Nat.le_trans HB1.out.size (by simp))))
     have hs2:w.heap.size+3≤w2.heap.size:=by have:=hb2.size;simp at this;omega
     clear hb2 hf2 hz2
     rw[h1b]))
 go_region
 all_goals
  go_wp2
  refine bodyPost_ret (v:=.tuple #[.int .i64 0,Zi f0 f1]) (by simp[results,Tryz.results80,go_sem, *]) rfl ?_
  exact⟨rfl,((HB2.out.setCell (p:=⟨w.heap.size+1+1,0,none⟩) (by show w.heap.size≤w.heap.size+1+1;omega) _).setCell (p:=⟨w.heap.size+1+1,1,none⟩) (by show w.heap.size≤w.heap.size+1+1;omega) _).drew⟩
end
end
section
open Go.RowKit
structure Cmp (w:World) (W fb:Nat) (a0 a1 b0 b1 f0 f1:Int):Prop where
 a:w.heap[W]?=some (.cells #[.int .i64 a0,.int .i64 a1] 37 (0,0))
 b:w.heap[W+1]?=some (.cells #[.int .i64 b0,.int .i64 b1] 37 (0,0))
 z:w.heap[W+1+1]?=some (.cells #[.int .i64 0,.int .i64 0] 32 (0,0))
 f:w.heap[fb]?=some (.cells #[.int .i64 f0,.int .i64 f1] 32 (0,0))
 gt:W+2<fb
section
variable {w w':World} {W fb:Nat} {a0 a1 b0 b1 f0 f1:Int}
theorem Cmp.below (h:Cmp w W fb a0 a1 b0 b1 f0 f1) (hb:Below w.heap.size w w'):Cmp w' W fb a0 a1 b0 b1 f0 f1 :=
 ⟨(hb.block _ (Zc h.a)).trans h.a,(hb.block _ (Zc h.b)).trans h.b,(hb.block _ (Zc h.z)).trans h.z,(hb.block _ (Zc h.f)).trans h.f,h.gt⟩
theorem Cmp.put (h:Cmp w W fb a0 a1 b0 b1 f0 f1) (g0 g1:Int):Cmp ((w.setCell ⟨fb,0,none⟩ (.int .i64 g0)).setCell ⟨fb,1,none⟩ (.int .i64 g1)) W fb a0 a1 b0 b1 g0 g1:=by
 have hg:=h.gt
 have hk:∀ i,i≠fb→((w.setCell ⟨fb,0,none⟩ (.int .i64 g0)).setCell ⟨fb,1,none⟩ (.int .i64 g1)).heap[i]?=w.heap[i]?:=fun i hi=>by
  rw[Below.heap_setCell _ _ _ _ (by simpa using hi),Below.heap_setCell _ _ _ _ (by simpa using hi)]
 refine⟨(hk _ (by omega)).trans h.a,(hk _ (by omega)).trans h.b,(hk _ (by omega)).trans h.z,?_,hg⟩
 rw[heap_setCell_same _ fb 1 _ _ _ (heap_setCell_same w fb 0 _ _ _ h.f)]
 simp
theorem Cmp.cells (h:Cmp w W fb a0 a1 b0 b1 f0 f1) :
 (w.cell? ⟨W,0,none⟩=some (.int .i64 a0)∧w.cell? ⟨W,1,none⟩=some (.int .i64 a1))∧(w.cell? ⟨W+1,0,none⟩=some (.int .i64 b0)∧w.cell? ⟨W+1,1,none⟩=some (.int .i64 b1)) ∧
 (w.cell? ⟨W+1+1,0,none⟩=some (.int .i64 0)∧w.cell? ⟨W+1+1,1,none⟩=some (.int .i64 0))∧(w.cell? ⟨fb,0,none⟩=some (.int .i64 f0)∧w.cell? ⟨fb,1,none⟩=some (.int .i64 f1)) :=
 ⟨⟨Za h.a 0,Za h.a 1⟩,⟨Za h.b 0,Za h.b 1⟩,⟨Za h.z 0,Za h.z 1⟩,⟨Za h.f 0,Za h.f 1⟩⟩
theorem Cmp.frozen (h:Cmp w W fb a0 a1 b0 b1 f0 f1) :
 (w.frozen? ⟨W+1+1,0,none⟩=false∧w.frozen? ⟨W+1+1,1,none⟩=false)∧(w.frozen? ⟨fb,0,none⟩=false∧w.frozen? ⟨fb,1,none⟩=false) :=
 ⟨⟨Zd h.z 0,Zd h.z 1⟩,⟨Zd h.f 0,Zd h.f 1⟩⟩
theorem Cmp.first {w1 w2:World} (hb1:Below (XY w a0 a1 b0 b1).heap.size (XY w a0 a1 b0 b1) w1) (hb2:Below (w1.alloc (.cells #[.int .i64 f0,.int .i64 f1] 32)).heap.size (w1.alloc (.cells #[.int .i64 f0,.int .i64 f1] 32)) w2) :
 Cmp w2 w.heap.size w1.heap.size a0 a1 b0 b1 f0 f1∧Below w.heap.size w w2:=by
 have hs1:w.heap.size+3≤w1.heap.size:=by have:=hb1.size;simpa using this
 have hB1:Below w.heap.size w w1:=(XZ w a0 a1 b0 b1).trans (hb1.mono (XZ w a0 a1 b0 b1).size)
 have hal:=((Below.refl _ w1).alloc (Nat.le_refl _) (.cells #[.int .i64 f0,.int .i64 f1] 32)).trans (hb2.mono (by simp))
 have k0:(XY w a0 a1 b0 b1).heap[w.heap.size]?=some (.cells #[.int .i64 a0,.int .i64 a1] 37 (0,0)):=by
  rw[((Below.refl _ (w.alloc (.cells #[.int .i64 a0,.int .i64 a1] 37))).alloc (Nat.le_refl _) (.cells #[.int .i64 b0,.int .i64 b1] 37)).alloc (by simp) (.cells #[.int .i64 0,.int .i64 0] 32) |>.block w.heap.size (by simp)]
  exact heap_alloc_new w _
 have k1:(XY w a0 a1 b0 b1).heap[w.heap.size+1]?=some (.cells #[.int .i64 b0,.int .i64 b1] 37 (0,0)):=by
  rw[((Below.refl _ ((w.alloc (.cells #[.int .i64 a0,.int .i64 a1] 37)).alloc (.cells #[.int .i64 b0,.int .i64 b1] 37))).alloc (Nat.le_refl _) (.cells #[.int .i64 0,.int .i64 0] 32)).block (w.heap.size+1) (by simp)]
  have:=heap_alloc_new (w.alloc (.cells #[.int .i64 a0,.int .i64 a1] 37)) (.cells #[.int .i64 b0,.int .i64 b1] 37)
  simpa using this
 have k2:(XY w a0 a1 b0 b1).heap[w.heap.size+1+1]?=some (.cells #[.int .i64 0,.int .i64 0] 32 (0,0)):=by
  have:=heap_alloc_new ((w.alloc (.cells #[.int .i64 a0,.int .i64 a1] 37)).alloc (.cells #[.int .i64 b0,.int .i64 b1] 37)) (.cells #[.int .i64 0,.int .i64 0] 32)
  simpa using this
 have up:∀ i,i<w.heap.size+3→w2.heap[i]?=(XY w a0 a1 b0 b1).heap[i]?:=fun i hi=>(hal.block i (by omega)).trans (hb1.block i (by simp;omega))
 refine⟨⟨(up _ (by omega)).trans k0,(up _ (by omega)).trans k1,(up _ (by omega)).trans k2,(hb2.block _ (by simp)).trans (heap_alloc_new w1 _),by omega⟩,hB1.trans (hal.mono hB1.size)⟩
end
end
section
open Go.RowKit
section
variable {w:World} {F:Nat→Prop} {bd bn cap:Nat} {rn:List RN} {rv:Value} {s:List Nd} {rs:List Sp}
theorem Zfn (hD:Zf w F bd bn cap rn rv s rs) (a0 a1 b0 b1 g0 g1:Int) (hf:Zs s a0 a1=(0,0)) (hg:Zs s b0 b1=(g0,g1)) (h1:g1≠0) :
 Calls Tryz.prog 80 #[.pointer (some ⟨bd,0,none⟩),.agg #[.int .i64 a0,.int .i64 a1],.agg #[.int .i64 b0,.int .i64 b1]] w fun e w'=>e=.returned (.tuple #[.int .i64 0,Zi g0 g1])∧Below w.heap.size w w':=by
 have CF:=hid (Yz (hD.below (XZ w a0 a1 b0 b1)) a0 a1)
 rw[hf] at CF
 have CG:=hid (fun w' (hb:Below w.heap.size w w')=>Yz (hD.below hb) b0 b1)
 rw[hg] at CG
 have h1b:(g1 == 0)=false:=by simpa using h1
 clear hD
 go_enter Tryz.func80,Tryz.ntmps80
 go_wp2_with (first
  | (go_at_call 127;refine(CG.out w2 HB2.out).mono ?_;rintro e w3 ⟨rfl,hb3⟩
     have hc3:=HC2.out.below hb3
     obtain⟨-,-,-,⟨cf0,cf1⟩⟩:=hc3.cells
     obtain⟨-,⟨ff0,ff1⟩⟩:=hc3.frozen
     have HC3:=hid hc3
     have HB3:=hid (HB2.out.trans (hb3.mono HB2.out.size))
     clear hc3 hb3)
  | (go_at_call 127;refine CF.out.mono ?_;rintro e w1 ⟨rfl,hb1⟩
     have HB1:=hid hb1
     clear hb1)
  | (go_at_call 124;have hc4:=HC3.out.put g0 g1;refine(Zy g0 g1 _).mono ?_;rintro e w4 ⟨rfl,hb4⟩
     have hc5:=hc4.below hb4
     obtain⟨-,-,⟨cz0,cz1⟩,⟨cg0,cg1⟩⟩:=hc5.cells
     obtain⟨⟨fz0,fz1⟩,-⟩:=hc5.frozen
     have HC5:=hid hc5
     have HB5:=hid (((HB3.out.setCell (p:=⟨w1.heap.size,0,none⟩) (by have:=HC3.out.gt;show w.heap.size≤w1.heap.size;omega) (.int .i64 g0)).setCell (p:=⟨w1.heap.size,1,none⟩) (by have:=HC3.out.gt;show w.heap.size≤w1.heap.size;omega) (.int .i64 g1)).trans (hb4.mono (by have:=HB3.out.size;simpa using this)))
     clear hc4 hc5 hb4
     rw[h1b])
  | (go_at_call 124;refine(Zy 0 0 _).mono ?_;rintro e w2 ⟨rfl,hb2⟩
     obtain⟨hc2,hB2⟩:=Cmp.first HB1.out hb2
     obtain⟨⟨ca0,ca1⟩,⟨cb0,cb1⟩,-,-⟩:=hc2.cells
     have HC2:=hid hc2
     have HB2:=hid hB2
     clear hb2 hc2 hB2))
 go_region
 all_goals
  go_wp2
  refine bodyPost_ret (v:=.tuple #[.int .i64 0,Zi g0 g1]) (by simp[results,Tryz.results80,go_sem, *]) rfl ?_
  exact⟨rfl,((HB5.out.setCell (p:=⟨w.heap.size+1+1,0,none⟩) (by show w.heap.size≤w.heap.size+1+1;omega) _).setCell (p:=⟨w.heap.size+1+1,1,none⟩) (by show w.heap.size≤w.heap.size+1+1;omega) _).drew⟩
end
end
section
open Go.RowKit
theorem XL {s:List Nd} {j n:Nat} (h:climb s j n < 0):∀ i,climb s (j+i) n < 0:=by
 intro i
 induction i with
 | zero=>exact h
 | succ i ih =>
   show climb s (j+i+1) n<0
   simp[climb,ih]
theorem Zm.one {s:List Nd} {n t t':Nat} (h:Zm s n t) (h':Zm s n t'):t=t':=by
 have key:∀ {a b:Nat} {i j:Nat} {x:Nd},climb s i n=(a:Int)→s[a]?=some x→x.p = -1→climb s j n=(b:Int)→¬ i<j:=by
  intro a b i j x h1 h2 h3 h4 hlt
  have e:climb s (i+1) n<0:=by rw[Ya h1];simp[Zw,h2,h3]
  have:=XL e (j - (i+1))
  rw[show i+1+(j - (i+1))=j by omega,h4] at this
  omega
 obtain⟨⟨i,hi⟩,x,hx,hp⟩:=h
 obtain⟨⟨j,hj⟩,y,hy,hq⟩:=h'
 have h1:=key hi hx hp hj
 have h2:=key hj hy hq hi
 obtain rfl:i=j:=by omega
 rw[hi] at hj
 omega
theorem Zm.up {s:List Nd} {n q t:Nat} {x:Nd} (hx:s[n]?=some x) (hp:x.p=(q:Int)) (h:Zm s q t):Zm s n t:=by
 obtain⟨⟨m,hm⟩,r⟩:=h
 have e:climb s 1 n=(q:Int):=by
  show climb s (0+1) n=_
  rw[Ya (show climb s 0 n=(n:Int) from rfl)]
  simp[Zw,hx,hp]
 exact⟨⟨1+m,by rw[YG e,hm]⟩,r⟩
theorem XC {s:List Nd} (wf:WF s):∀ n,n < s.length→∃ t,Zm s n t:=by
 obtain⟨h,B,u⟩:=wf.up
 have key:∀ k n,n<s.length→B - h n<k→∃ t,Zm s n t:=by
  intro k
  induction k with
  | zero=>intro n _ hk;omega
  | succ k ih =>
    intro n hn hk
    have hx:s[n]?=some s[n]:=List.getElem?_eq_getElem hn
    rcases wf.par n _ hx with e|⟨q,y,e,hy,_⟩
    · exact⟨n,⟨0,rfl⟩,_,hx,e⟩
    · have hup:=u.par n _ hx (by omega)
      rw[e] at hup
      simp at hup
      have:=u.le q
      obtain⟨t,ht⟩:=ih q (List.getElem?_eq_some_iff.1 hy).1 (by omega)
      exact⟨t,ht.up hx e⟩
 intro n hn
 exact key (B - h n+1) n hn (by omega)
section
variable {w:World} {F:Nat→Prop} {bd bn cap:Nat} {rn:List RN} {rv:Value} {s:List Nd} {rs:List Sp}
theorem XB (wf:WF s) (hD:Zf w F bd bn cap rn rv s rs) {n t:Nat} (ht:Zm s n t) (hn:n < s.length) :
 Calls Tryz.prog 128 #[.pointer (some ⟨bd,0,none⟩),.int .i64 n] w fun e w'=>e=.returned (.int .i64 t)∧w'=w:=by
 refine(Za2 wf hD n hn).mono ?_
 rintro e w' ⟨⟨t',rfl,ht'⟩,rfl⟩
 exact⟨by rw[ht.one ht'],rfl⟩
theorem ZJ.one {l:List (Nat × Nat)} {p:Nat × Nat} {q q':Int} (h:ZJ l p q) (h':ZJ l p q'):q=q':=by
 have key:∀ {i j:Nat},l[i]?=some p→p∉l.take j→¬ i<j:=fun h1 h2 hlt=>h2 (List.mem_of_getElem? (i:=_) (by rw[List.getElem?_take,if_pos hlt];exact h1))
 rcases h with ⟨i,rfl,hi,hi'⟩|⟨rfl,hn⟩ <;> rcases h' with ⟨j,rfl,hj,hj'⟩|⟨rfl,hn'⟩
 · have h1:=key hi hj'
   have h2:=key hj hi'
   omega
 · exact absurd (List.mem_of_getElem? hi) hn'
 · exact absurd (List.mem_of_getElem? hj) hn
 · rfl
theorem X3 (wf:WF s) {h:Nat→Nat} {B:Nat} (u:Up s h B) (hD:Zf w F bd bn cap rn rv s rs) {n k n2 k2 t:Nat} {qa qb:Int} (hn:n < s.length) (ht:Zm s n t) (ha:ZJ (plF s (B+1) t) (n,k) qa) (hb:ZJ (plF s (B+1) t) (n2,k2) qb) :
 Calls Tryz.prog 129 #[.pointer (some ⟨bd,0,none⟩),.agg #[.int .i64 n,.int .i64 k],.agg #[.int .i64 n2,.int .i64 k2]] w fun e w'=>e=.returned (.bool (decide (qa<qb)))∧Below w.heap.size w w':=by
 refine(Ze2 wf u n k n2 k2 hn w hD).mono ?_
 rintro e w' ⟨⟨t',qa',qb',ht',ha',hb',rfl⟩,hB⟩
 obtain rfl:=ht.one ht'
 exact⟨by rw[ha.one ha',hb.one hb'],hB⟩
end
end
end Go.Proofs.YtabogkonklplcaaGreatDoor
