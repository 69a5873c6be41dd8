import Derived.Test.YtabogkonklplcaaGreatDoorJ46
import Derived.Test.YtabogkonklplcaaGreatDoorJ20
import Derived.Test.YtabogkonklplcaaGreatDoorJ45
namespace Go.Proofs.YtabogkonklplcaaGreatDoor
set_option linter.unusedSimpArgs false
set_option linter.unusedVariables false
set_option maxRecDepth 20000
set_option maxHeartbeats 8000000
section
open Go.RowKit
def Y5 (M:Nat) (G:Nat→Prop) (wr:World) (v:Value) (f:Mvf):Prop:=∃ m W,ZR m W v f∧M≤m∧Zb (fun b=>b < m) W wr∧(∀ b,G b→b < m∨W.heap.size≤b)
theorem Y5.now {M:Nat} {G:Nat→Prop} {wr:World} {v:Value} {f:Mvf} (h:Y5 M G wr v f):ZR M wr v f:=by
 obtain⟨m,W,h1,h2,h3,_⟩:=h
 exact(h1.keeps h3 (fun b hb e=>by omega)).down h2
theorem Y5.step {M:Nat} {G G':Nat→Prop} {wr w':World} {v:Value} {f:Mvf} (h:Y5 M G wr v f) (hk:Zb G wr w') (hG:∀ b,G' b→G b∨wr.heap.size≤b):Y5 M G' w' v f:=by
 obtain⟨m,W,h1,h2,h3,h4⟩:=h
 have hz:=h3.size
 refine⟨m,W,h1,h2,h3.trans (hk.mono (fun b _ e=>h4 b e)),fun b e=>?_⟩
 rcases hG b e with e|e
 · exact h4 b e
 · exact .inr (by omega)
structure X2 (M:Nat) (F:Nat→Prop) (w1:World) (bf:Nat) (acts:List Dact) (s':List Nd) (fs:List Mvf) (k:Nat) (mval:Value) (wr:World) (sk:List Nd) (fs1 fs2:List Mvf) (vs:List Value) (Fk:Nat→Prop):Prop where
 row:wr.ownsRow 0 110 1 mval k vs
 lv:vs.length=k
 lf:fs1.length=k
 mv:∀ (i:Nat) (v:Value) (f:Mvf),vs[i]?=some v→fs1[i]?=some f→Y5 M (fun b=>Fk b∨mval.ownBlock=some b) wr v f
 chs:Chgs sk (acts.drop k) s' fs2
 eq:fs=fs1++fs2
 wf:WF sk
 pf:PFor wr Fk bf sk
 sub:∀ b,Fk b→F b∨M≤b
 lt:∀ b,Fk b→b<wr.heap.size
 ge:∀ b,mval.ownBlock=some b→M≤b
 ap:∀ b,mval.ownBlock=some b→¬ Fk b
 keeps:Zb F w1 wr
theorem X2.next {M:Nat} {F:Nat→Prop} {w1 wr w2 w3:World} {bf:Nat} {acts:List Dact} {s' s2:List Nd} {fs:List Mvf} {k:Nat} {mval mval' mv:Value} {sk:List Nd} {fs1 fs2:List Mvf} {vs:List Value} {Fk:Nat→Prop} {f:Mvf} {m:Nat}
 (h:X2 M F w1 bf acts s' fs k mval wr sk fs1 (f::fs2) vs Fk) (hM:w1.heap.size=M) (hc:Chgs s2 (acts.drop (k+1)) s' fs2) (wf2:WF s2)
 (hk:Zb Fk wr w2) (h1:wr.heap.size≤m) (h2:m≤w2.heap.size) (hf:PFor w2 (fun b=>Fk b∨(wr.heap.size≤b∧b<m)) bf s2) (hm:ZR m w2 mv f)
 (hg:(w2.alloc (.cells #[mv] 110)).grownBy w3 mval.ownBlock) (ho:w3.ownsRow 0 110 1 mval' (k+1) (vs++[mv])) (hob:mval'.ownBlock=mval.ownBlock∨∃ j,mval'.ownBlock=some j∧w2.heap.size<j) :
 X2 M F w1 bf acts s' fs (k+1) mval' w3 s2 (fs1++[f]) fs2 (vs++[mv]) (fun b=>Fk b∨(wr.heap.size≤b∧b<m)):=by
 have hkz:=h.keeps.size
 have hz2:=hk.size
 have hkA:Zb (fun b=>mval.ownBlock=some b) w2 w3:=((Zb.refl _ w2).alloc _).trans (Zb.grown hg (fun j e=>.inl (.inl e)))
 have hz3:=hkA.size
 have hmb:∀ b,mval.ownBlock=some b→b<wr.heap.size:=fun b e=>(h.row.lt b e).2
 refine⟨ho,by simp[h.lv],by simp[h.lf],?_,hc,by rw[h.eq];simp,wf2,?_,?_,?_,?_,?_,?_⟩
 · have old:∀ v g,Y5 M (fun b=>Fk b∨mval.ownBlock=some b) wr v g→Y5 M (fun b=>(Fk b∨(wr.heap.size≤b∧b<m))∨mval'.ownBlock=some b) w3 v g:=by
    intro v g hv
    have e1:=hv.step (G':=fun b=>Fk b∨mval.ownBlock=some b∨wr.heap.size≤b) (hk.mono (fun b _ e=>.inl e)) (fun b e=>by
     rcases e with e|e|e
     · exact .inl (.inl e)
     · exact .inl (.inr e)
     · exact .inr e)
    refine e1.step (hkA.mono (fun b _ e=>.inr (.inl e))) (fun b e=>?_)
    rcases e with (e|e)|e
    · exact .inl (.inl e)
    · exact .inl (.inr (.inr e.1))
    · rcases hob with e2|⟨j,e2,e3⟩
      · exact .inl (.inr (.inl (e2 ▸ e)))
      · rw[e2] at e
        cases e
        exact .inr (by omega)
   have new:Y5 M (fun b=>(Fk b∨(wr.heap.size≤b∧b<m))∨mval'.ownBlock=some b) w3 mv f:=by
    refine⟨m,w2,hm,by omega,hkA.mono (fun b _ e=>by have:=hmb b e;omega),fun b e=>?_⟩
    rcases e with (e|e)|e
    · have:=h.lt b e;exact .inl (by omega)
    · exact .inl e.2
    · rcases hob with e2|⟨j,e2,e3⟩
      · have:=hmb b (e2 ▸ e);exact .inl (by omega)
      · rw[e2] at e
        cases e
        exact .inr (by omega)
   intro i v g hi hgi
   by_cases hlt:i<vs.length
   · rw[List.getElem?_append_left hlt] at hi
     rw[List.getElem?_append_left (by rw[h.lf,← h.lv];exact hlt)] at hgi
     exact old v g (h.mv i v g hi hgi)
   · rw[List.getElem?_append_right (by omega)] at hi
     rw[List.getElem?_append_right (by rw[h.lf,← h.lv];omega),h.lf,← h.lv] at hgi
     obtain⟨j,hj⟩:∃ j,j=i - vs.length:=⟨_,rfl⟩
     rw[← hj] at hi hgi
     cases j with
     | zero=>simp at hi hgi;subst hi;subst hgi;exact new
     | succ j=>simp at hi
 · exact hf.keeps hkA (fun b e e2=>by
    rcases e with e|e
    · exact h.ap b e2 e
    · have:=hmb b e2;omega)
 · rintro b (e|e)
   · exact h.sub b e
   · exact .inr (by omega)
 · rintro b (e|e)
   · have:=h.lt b e;omega
   · omega
 · intro b e
   rcases hob with e2|⟨j,e2,e3⟩
   · exact h.ge b (e2 ▸ e)
   · rw[e2] at e
     cases e
     omega
 · intro b e
   rcases hob with e2|⟨j,e2,e3⟩
   · rintro(e4|e4)
     · exact h.ap b (e2 ▸ e) e4
     · have:=hmb b (e2 ▸ e);omega
   · rw[e2] at e
     cases e
     rintro(e4|e4)
     · have:=h.lt _ e4;omega
     · omega
 · refine(h.keeps.trans (hk.mono (fun b _ e=>?_))).trans (hkA.mono (fun b _ e=>?_))
   · rcases h.sub b e with e|e
     · exact .inl e
     · exact .inr (by omega)
   · exact .inr (by have:=h.ge b e;omega)
theorem ZL.from {w w0 wr:World} {bf:Nat} {acts:List Dact} {v:Value} (h:ZL w0 bf acts v wr) (hw:w.heap.size≤w0.heap.size):ZL w bf acts v wr:=by
 obtain⟨C,cvs,h1,h2,h3,h4⟩:=h
 exact⟨C,cvs,h1,h2,fun b e=>⟨Nat.le_trans hw (h3 b e).1,(h3 b e).2⟩,fun b e=>Nat.le_trans hw (h4 b e)⟩
theorem ZL.store {w wr:World} {bf p:Nat} {acts:List Dact} {v:Value} {w0:World} (h:ZL w0 bf acts v wr) (hp:p < w0.heap.size∨wr.heap.size≤p) (u:Value) (k:Nat):ZL w0 bf acts v (wr.setCell ⟨p,k,none⟩ u):=by
 obtain⟨C,cvs,h1,h2,h3,h4⟩:=h
 have hk:Zb (fun b=>b=p) wr (wr.setCell ⟨p,k,none⟩ u):=(Zb.refl (fun b=>b=p) wr).setCell (p:=⟨p,k,none⟩) (.inl rfl) u
 refine⟨C,cvs,hk.row h1 (fun b e e2=>?_),h2.keeps hk (fun b e e2=>?_),fun b e=>⟨(h3 b e).1,by simpa using (h3 b e).2.1,(h3 b e).2.2⟩,h4⟩
 · subst e2
   have:=h4 _ e
   have:=(h1.lt _ e).2
   omega
 · subst e2
   have:=h3 _ e
   omega
def Zbg (w:World) (bf:Nat) (acts:List Dact) (jp jq:Int) (s7 s8:Value) (wc:World):Prop :=
 ∃ (p:Nat) (ga:Option Addr) (c:Nat),s7=.pointer (some ⟨p,0,none⟩)∧s8=.slice ga acts.length c∧wc.heap[p]?=some (.cells #[.int .i64 jp,.int .i64 jq] 37 (0,0))∧ZL w bf acts (.slice ga acts.length c) wc∧Below w.heap.size w wc∧wc.heap[w.heap.size+1]?=some (.cells #[.int .i64 0,.int .i64 0] 37 (0,0))∧w.heap.size+2≤p
theorem jd_set {w X w2 W0:World} {bf p c:Nat} {ga:Option Addr} {acts:List Dact} (jp jq:Int) (hsf:ZL X bf acts (.slice ga acts.length c) w2) (hp:w2.heap[p]?=some (.cells #[.int .i64 0,.int .i64 0] 37 (0,0))) (hpX:p < X.heap.size) (hwX:w.heap.size≤X.heap.size) (hB:Below W0.heap.size W0 w2) (hb0:Below w.heap.size w W0) (y1:W0.heap[w.heap.size+1]?=some (.cells #[.int .i64 0,.int .i64 0] 37 (0,0))) (hpw:w.heap.size+2≤p) :
 Zbg w bf acts jp jq (.pointer (some ⟨p,0,none⟩)) (.slice ga acts.length c) ((w2.setCell ⟨p,0,none⟩ (.int .i64 jp)).setCell ⟨p,1,none⟩ (.int .i64 jq)):=by
 have a1:=heap_setCell_same w2 _ 0 _ _ (.int .i64 jp) hp
 have a2:=heap_setCell_same _ _ 1 _ _ (.int .i64 jq) a1
 have hbw:=hb0.trans (hB.mono hb0.size)
 refine⟨p,ga,c,rfl,rfl,by rw[a2];rfl,((hsf.store (w:=w) (.inl hpX) _ 0).store (w:=w) (.inl hpX) _ 1).from hwX,?_,?_,hpw⟩
 · exact(((Zb.of_below (F:=fun _=>False) hbw).setCell (p:=⟨p,0,none⟩) (.inr (by simp only;omega)) _).setCell (p:=⟨p,1,none⟩) (.inr (by simp only;omega)) _).below
 · rw[Below.heap_setCell _ _ _ _ (by simp only;omega),Below.heap_setCell _ _ _ _ (by simp only;omega)]
   exact(hB.block _ (Zc y1)).trans y1
theorem jd_new {w X w2 W0:World} {bf c:Nat} {ga:Option Addr} {acts:List Dact} (jp jq:Int) (hsf:ZL X bf acts (.slice ga acts.length c) w2) (hwX:w.heap.size≤X.heap.size) (hB:Below W0.heap.size W0 w2) (hb0:Below w.heap.size w W0) (y1:W0.heap[w.heap.size+1]?=some (.cells #[.int .i64 0,.int .i64 0] 37 (0,0))) :
 Zbg w bf acts jp jq (.pointer (some ⟨w2.heap.size,0,none⟩)) (.slice ga acts.length c) (w2.alloc (.cells #[.int .i64 jp,.int .i64 jq] 37)):=by
 have hbw:=hb0.trans (hB.mono hb0.size)
 have hl:=Zc y1
 have hz:=hB.size
 have hbA:Below w2.heap.size w2 (w2.alloc (.cells #[.int .i64 jp,.int .i64 jq] 37)):=(Below.refl _ w2).alloc (Nat.le_refl _) _
 refine⟨w2.heap.size,ga,c,rfl,rfl,heap_alloc_new w2 _,(hsf.below hbA).from hwX,hbw.alloc hbw.size _,?_,by omega⟩
 rw[Below.heap_alloc _ _ _ (by omega)]
 exact(hB.block _ hl).trans y1
section
variable {s s':List Nd} {F:Nat→Prop} {bf:Nat} {w:World}
theorem Zet (hTb:∀ W,Zb F w W→Tabs W) (hD:PFor w F bf s) (wf:WF s) (z:Sp) (jp jq:Int) (acts:List Dact) (fs:List Mvf) (hc:Chgs s acts s' fs) (hl:acts.length≤50)
 (hJ:∀ W,Below w.heap.size w W→Calls Tryz.prog 162 #[ptr bf,spV z] W fun e w'=>e=.returned (.agg #[.int .i64 jp,.int .i64 jq])∧Below W.heap.size W w')
 (hA:∀ W,Below w.heap.size w W→Calls Tryz.prog 163 #[ptr bf,spV z] W (Zbf W bf acts)) :
 Calls Tryz.prog 114 #[ptr bf,spV z] w fun e w'=>∃ mv,e=.returned (.tuple #[.agg #[.int .i64 jp,.int .i64 jq],mv,.nilIface])∧Zb F w w'∧PFor w' (grow F w) bf s'∧ZR w.heap.size w' mv (Zq fs):=by
 obtain⟨i0,hi,hz0,hz1,hz2⟩:=info_parts Tryz.info110
 have CJ:=hid hJ
 have CA:=hid hA
 have HD:=hid (And.intro hD.narrow (And.intro wf (And.intro hc hTb)))
 clear hJ hA hD wf hc hTb
 go_enter Tryz.func114,Tryz.ntmps114
 go_wp2
 obtain⟨W0,hW0⟩:∃ W0,(w.alloc (.cells #[.int .i64 z.a,.int .i64 z.b,.int .i64 z.c,.int .i64 z.d] 79)).alloc (.cells #[.int .i64 0,.int .i64 0] 37)=W0:=⟨_,rfl⟩
 have hsz0:W0.heap.size=w.heap.size+2:=by rw[← hW0];simp
 have hb0:Below w.heap.size w W0:=by rw[← hW0];exact((Below.refl _ w).alloc (Nat.le_refl _) _).alloc (by simp) _
 have y0:W0.heap[w.heap.size]?=some (.cells #[.int .i64 z.a,.int .i64 z.b,.int .i64 z.c,.int .i64 z.d] 79 (0,0)):=by
  rw[← hW0,Below.heap_alloc _ _ _ (by simp),heap_alloc_new]
 have y1:W0.heap[w.heap.size+1]?=some (.cells #[.int .i64 0,.int .i64 0] 37 (0,0)):=by
  have:=heap_alloc_new (w.alloc (.cells #[.int .i64 z.a,.int .i64 z.b,.int .i64 z.c,.int .i64 z.d] 79)) (.cells #[.int .i64 0,.int .i64 0] 37)
  rw[World.size_alloc] at this
  rw[← hW0];exact this
 rw[hW0]
 have s0:W0.cell? ⟨w.heap.size,0,none⟩=some (.int .i64 z.a):=Za y0 0
 have s1:W0.cell? ⟨w.heap.size,1,none⟩=some (.int .i64 z.b):=Za y0 1
 have s2:W0.cell? ⟨w.heap.size,2,none⟩=some (.int .i64 z.c):=Za y0 2
 have s3:W0.cell? ⟨w.heap.size,3,none⟩=some (.int .i64 z.d):=Za y0 3
 have hl0:=Zc y0
 have KEEP:=hid (fun W (hB:Below W0.heap.size W0 W)=>And.intro ((hB.cell (p:=⟨w.heap.size,0,none⟩) hl0).trans s0) (And.intro ((hB.cell (p:=⟨w.heap.size,1,none⟩) hl0).trans s1) (And.intro ((hB.cell (p:=⟨w.heap.size,2,none⟩) hl0).trans s2) ((hB.cell (p:=⟨w.heap.size,3,none⟩) hl0).trans s3))))
 have HY:=hid (And.intro y0 (And.intro y1 (And.intro hb0 hsz0)))
 have HBA:=hid ((Below.refl W0.heap.size W0).drew.alloc (Nat.le_refl _) (.cells #[.int .i64 0,.int .i64 0] 37))
 have hne0:¬ w.heap.size=W0.heap.size:=by omega
 clear y0 y1 hb0 hW0 hsz0
 go_cut [7,8] from 14 to 19 (fun s7 s8 wc=>Zbg w bf acts jp jq s7 s8 wc)
 case first =>
  go_region_held3 (fun w'=>w'.cell? ⟨w.heap.size,0,none⟩=some (.int .i64 z.a)∧w'.cell? ⟨w.heap.size,1,none⟩=some (.int .i64 z.b)∧w'.cell? ⟨w.heap.size,2,none⟩=some (.int .i64 z.c)∧w'.cell? ⟨w.heap.size,3,none⟩=some (.int .i64 z.d)) (first|exact KP2.out|exact KP1.out|exact KEEP.out _ (Below.refl _ W0).drew|exact KEEP.out _ HBA.out|exact KP1B.out|exact KP2B.out|exact KP2C.out|exact KPS.out _ hne1|exact KPS.out _ hne0|go_keep) (first
   | (go_at_call 163
      refine(CA.out _ ?_).mono ?_
      · first | exact HBW1.out|exact HBW1.out.alloc HBW1.out.size _
      rintro e w2 ⟨ga,cc,rfl,hsf,hb2⟩
      have hb2c:Below W0.heap.size W0 w2:=by
       first | exact HB1.out.trans (hb2.mono HB1.out.size)|exact(HB1.out.alloc HB1.out.size _).trans (hb2.mono (Nat.le_trans HB1.out.size (by simp)))
      have KP2:=hid (KEEP.out w2 hb2c)
      have KP2B:=hid (KEEP.out _ (hb2c.alloc hb2c.size (.cells #[.int .i64 0,.int .i64 0] 37)))
      have KP2C:=hid (KEEP.out _ (hb2c.alloc hb2c.size (.cells #[.int .i64 jp,.int .i64 jq] 37)))
      have KPS:=hid (fun (p:Nat) (hp:¬ w.heap.size=p) =>
       have hkS:Zb (fun b=>b=p) w2 ((w2.setCell ⟨p,0,none⟩ (.int .i64 jp)).setCell ⟨p,1,none⟩ (.int .i64 jq)):=((Zb.refl (fun b=>b=p) w2).setCell (p:=⟨p,0,none⟩) (.inl rfl) _).setCell (p:=⟨p,1,none⟩) (.inl rfl) _
       And.intro (hkS.cell KP2.out.1 hp) (And.intro (hkS.cell KP2.out.2.1 hp) (And.intro (hkS.cell KP2.out.2.2.1 hp) (hkS.cell KP2.out.2.2.2 hp))))
      have hne2:¬ w.heap.size=w2.heap.size:=by have:=hb2c.size;omega
      have HB2:=hid hb2c
      have HSF:=hid hsf
      first
       | (have hpb:=(hb2.block _ (Zc HPA.out)).trans HPA.out
          have pb0:=Za hpb 0
          have pb1:=Za hpb 1
          have pf0:=Zd hpb 0
          have pf1:=Zd hpb 1
          have HPB:=hid hpb
          clear hpb)
       | (have hpb:=(hb2.block w1.heap.size (by simp)).trans (heap_alloc_new w1 (.cells #[.int .i64 0,.int .i64 0] 37))
          have pb0:=Za hpb 0
          have pb1:=Za hpb 1
          have pf0:=Zd hpb 0
          have pf1:=Zd hpb 1
          have HPB:=hid hpb
          clear hpb)
       | skip
      clear hsf hb2 hb2c)
   | (go_at_call 162
      refine(CJ.out _ ?_).mono ?_
      · first | exact HY.out.2.2.1.drew|exact(HY.out.2.2.1.drew).alloc (HY.out.2.2.1.size) _
      rintro e w1 ⟨rfl,hb1⟩
      have hb1c:Below W0.heap.size W0 w1:=by
       first | exact⟨hb1.os,hb1.tape,hb1.output,hb1.size,hb1.block⟩|exact HBA.out.trans (hb1.mono HBA.out.size)
      have KP1:=hid (KEEP.out w1 hb1c)
      have KP1B:=hid (KEEP.out _ (hb1c.alloc hb1c.size (.cells #[.int .i64 0,.int .i64 0] 37)))
      have hne1:¬ w.heap.size=w1.heap.size:=by have:=hb1c.size;omega
      have HB1:=hid hb1c
      have HBW1:=hid (HY.out.2.2.1.trans (hb1c.mono HY.out.2.2.1.size))
      first
       | (have hpa:=(hb1.block W0.heap.size (by simp)).trans (heap_alloc_new W0.drew (.cells #[.int .i64 0,.int .i64 0] 37))
          have HPA:=hid hpa
          clear hpa)
       | skip
      clear hb1 hb1c))
  all_goals
   go_wp2_with fail
   go_meet
   case rel =>
    obtain⟨_,y1,hb0,hsz0⟩:=HY.out
    have h1:=HB1.out.size
    first
     | exact jd_new jp jq HSF.out (by first|omega|(simp;omega)) HB2.out hb0 y1
     | exact jd_set jp jq HSF.out HPB.out (by first|(simp;done)|(have:=Zc HPA.out;omega)) (by first|omega|(simp;omega)) HB2.out hb0 y1 (by omega)
 case rest =>
  obtain⟨p,ga,cc,rfl,rfl,hp,hsf,hbc,hr,hpw⟩:=hcut
  have r0:=Za hr 0
  have r1:=Za hr 1
  have rf0:=Zd hr 0
  have rf1:=Zd hr 1
  have p0:=Za hp 0
  have p1:=Za hp 1
  obtain⟨hpf,wf,hcs,hTb⟩:=HD.out
  obtain⟨F0,hF0⟩:∃ F0:Nat→Prop,F0=fun b=>F b∧b<w.heap.size:=⟨_,rfl⟩
  rw[← hF0] at hpf
  have hF0l:∀ b,F0 b→b<w.heap.size:=fun b e=>by rw[hF0] at e;exact e.2
  have hF0F:∀ b,F0 b→F b:=fun b e=>by rw[hF0] at e;exact e.1
  have hzc:=hbc.size
  have M0:Hid (X2 wc.heap.size F0 wc bf acts s' fs 0 (.slice none 0 0) wc s [] fs [] F0):=⟨World.ownsRow_nil _ _ _ _,rfl,rfl,fun i v f h=>by simp at h,hcs,rfl,wf,hpf.below hbc,fun b e=>.inl e,fun b e=>by have:=hF0l b e;omega,fun b e=>(by cases e),fun b e=>(by cases e),Zb.refl _ _⟩
  obtain⟨C,cvs,hrow,hfns,hC,hgw⟩:=hsf
  have HSF:=hid (And.intro hrow (And.intro hfns (And.intro hC hgw)))
  have HF:=hid (And.intro hF0l (And.intro hF0F hTb))
  have HBC:=hid hbc
  have HPR:=hid (And.intro hp hr)
  have hpl:=Zc hp
  have hrl:=Zc hr
  clear hpf wf hcs hTb hF0 hF0l hF0F hrow hfns hC hgw hbc hp hr HD
  go_wp2
  go_loopw [9,22] (fun t9 t22 wr=>∃ (k:Nat) (mval:Value) (sk:List Nd) (fs1 fs2:List Mvf) (vs:List Value) (Fk:Nat→Prop),k≤acts.length∧t9=mval∧t22=.int .i64 (k:Int)∧X2 wc.heap.size F0 wc bf acts s' fs k mval wr sk fs1 fs2 vs Fk) (fun _ t _=>Yj acts.length t)
  case atStart=>exact⟨0,_,_,_,_,_,_,Nat.zero_le _,rfl,rfl,M0.out⟩
  case round =>
   obtain⟨k,mval,sk,fs1,fs2,vs,Fk,hk,h9,rfl,hMv⟩:=hrel
   replace h9:=h9.symm
   subst h9
   obtain⟨hF0l,hF0F,hTb⟩:=HF.out
   obtain⟨hrow,hfns,hC,hgw⟩:=HSF.out
   obtain⟨ga2,c2,hv⟩:=ZaZ hMv.row
   subst hv
   have hzw:=hMv.keeps.size
   have hkw:Zb F w wr:=(Zb.of_below HBC.out).trans (hMv.keeps.mono (fun b _ e=>.inl (hF0F b e)))
   by_cases hlt:k<acts.length
   · have hlI:(k:Int)<(acts.length:Int):=by omega
     obtain⟨act,hact⟩:∃ act,acts[k]?=some act:=⟨_,List.getElem?_eq_getElem hlt⟩
     obtain⟨cv,hcv⟩:∃ cv,cvs[k]?=some cv:=⟨_,List.getElem?_eq_getElem (by rw[hfns.1];exact hlt)⟩
     have hfn:=(hfns.2 k act cv hact hcv).keeps hMv.keeps (fun b e e2=>by have:=hF0l b e2;have:=(hC b e).1;omega)
     have hdr:acts.drop k=act::acts.drop (k+1):=by
      obtain⟨h1,rfl⟩:=List.getElem?_eq_some_iff.1 hact
      exact List.drop_eq_getElem_cons h1
     have hch:=hMv.chs
     rw[hdr] at hch
     obtain⟨s1,f,fs3,rfl,hc1,hc2⟩:∃ s1 f fs3,fs2=f::fs3∧Chg sk act s1 f∧Chgs s1 (acts.drop (k+1)) s' fs3:=by
      cases hch with
      | cons h1 h2=>exact⟨_,_,_,rfl,h1,h2⟩
     obtain⟨gf,lb,rfl,hent,hrun⟩:=fn_run hfn hMv.pf hc1 hMv.wf (hTb wr hkw)
     obtain⟨gR,hgR⟩:∃ gR,ga=some ⟨gR,0,none⟩:=by
      rcases ZB hrow with ⟨_,hl0⟩|⟨g,c3,hgv⟩
      · omega
      · cases hgv;exact⟨_,rfl⟩
     subst hgR
     have cz:wr.cell? ⟨gR,k,none⟩=some (.func (.func gf) #[] lb):=by
      refine hMv.keeps.cell ?_ (fun e=>by have h1:=hF0l gR e;have h2:=hgw gR rfl;omega)
      rw[hrow.cellAt k (by omega)]
      exact hcv
     have CM:=hid hrun
     have HMV:=hid hMv
     have HC2:=hid (And.intro hc2 (hc1.wf hMv.wf))
     clear hrun hMv hc1 hc2 hch hdr hfn hrow hfns hC hgw hF0l hF0F hTb hkw hact hcv
     go_wp2_with first
      | (go_at_fn gf
         refine CM.out.mono ?_
         clear CM
         rintro e w2 ⟨mv,m,rfl,hk2,h1,h2,hf2,hm⟩
         have hm':=hm
         obtain⟨gm,lm,rfl,_,_⟩:=hm'.runs
         have hrow2:=hk2.row HMV.out.row (fun b e=>HMV.out.ap b e)
         have HROW2:=hid hrow2
         have HT:=hid (And.intro hk2 (And.intro h1 (And.intro h2 (And.intro hf2 hm))))
         clear hk2 h1 h2 hf2 hm hm' hrow2)
      | (at_builtin
         refine wpList_append_own_at _ rfl _ _ 235 rfl 0 110 i0 .nilFunc 1 8 Tryz.underlying235 hi hz0 hz1 hz2 rfl (by decide) (.slice ga2 k c2) _ _ rfl (HROW2.out.alloc _) ⟨w2.heap.size,0,none⟩ 1 1 [.func (.func gm) #[] lm] rfl rfl (cell_one_new _ _ _) (by simp[Value.oneCell']) (by unfold maxLen;omega) (by omega) (Nat.zero_le _) ?_
         intro v' w3 hown' hgrow _ hob
         obtain⟨g',cap',rfl⟩:=ownsRow_succ hown'
         have HW:=hid hown'
         have HG:=hid hgrow
         have HOB:=hid hob
         clear hown' hgrow hob)
     obtain⟨hk2,h1,h2,hf2,hm⟩:=HT.out
     have hob':(Value.slice (some ⟨g',0,none⟩) (k+1) cap').ownBlock=(Value.slice ga2 k c2).ownBlock∨∃ j,(Value.slice (some ⟨g',0,none⟩) (k+1) cap').ownBlock=some j∧w2.heap.size<j:=by
      rcases HOB.out with e|e
      · exact .inl e
      · exact .inr ⟨_,e,by simp⟩
     have hN:=X2.next HMV.out rfl HC2.out.1 HC2.out.2 hk2 h1 h2 hf2 hm HG.out HW.out hob'
     refine⟨⟨k+1,_,_,_,_,_,_,by omega,rfl,by simp,hN⟩,?_⟩
     show acts.length - ((k:Int)+1).toNat<acts.length - ((k:Int)).toNat
     omega
   · have hkl:k=acts.length:=by omega
     have hch:=hMv.chs
     rw[hkl,List.drop_length] at hch
     obtain⟨rfl,rfl⟩:sk=s'∧fs2=[]:=by
      cases hch with
      | nil=>exact⟨rfl,rfl⟩
     have hfe:fs=fs1:=by rw[hMv.eq];simp
     subst hfe
     have hlI:¬ (k:Int)<(acts.length:Int):=by omega
     have hfl:fs.length=acts.length:=by rw[hMv.lf,hkl]
     have CT:=hid (fun W (hB:Below wr.heap.size wr W)=>by
      have hkB:=Zb.of_below (F:=fun _=>False) hB
      have hr2:=hkB.row hMv.row (fun _ _ e=>e)
      have hz2:=hB.size
      have:=Zf1 (w:=W) (m:=w.heap.size+2) (fs:=fs) (vs:=vs) (ga:=ga2) (c:=c2) (by rw[hMv.lf];exact hr2) (fun b e=>by have:=hMv.ge b (by rw[hMv.lf] at e;exact e);omega) ⟨by rw[hMv.lv,hMv.lf],fun i v f h1 h2=>(((hMv.mv i v f h1 h2).now.keeps hkB (fun _ _ e=>e)).down (by omega))⟩ (M0.out.chs.near M0.out.wf) (by omega) (by omega)
      rw[hfl] at this
      exact this)
     have q0:=hMv.keeps.cell p0 (fun e=>by have h1:=hF0l p e;omega)
     have q1:=hMv.keeps.cell p1 (fun e=>by have h1:=hF0l p e;omega)
     have hr4:=(hMv.keeps.block (w.heap.size+1) hrl (fun e=>by have h1:=hF0l _ e;omega)).trans HPR.out.2
     have HR4:=hid hr4
     have rg0:=Za hr4 0
     have rg1:=Za hr4 1
     have rh0:=Zd hr4 0
     have rh1:=Zd hr4 1
     have HMV:=hid (And.intro hMv (And.intro hF0l (And.intro hF0F hkw)))
     have hne:¬ p=w.heap.size+1:=by omega
     clear hMv hch hrow hfns hC hgw hF0l hF0F hTb hr4 hkw M0 CJ CA HSF HY HBA KEEP
     clear hlt hfl
     go_wp2
     go_region_held3 (fun w'=>w'.cell? ⟨p,0,none⟩=some (.int .i64 jp)∧w'.cell? ⟨p,1,none⟩=some (.int .i64 jq)) (first|exact KP2.out|exact KP2S.out|go_keep) ((
      go_at_call 164
      refine(CT.out _ ?_).mono ?_
      · first | exact(Below.refl _ wr).drew|exact(Below.refl _ wr)
      rintro e w2 ⟨bs,rfl,hb2,hm2⟩
      have hb2c:Below wr.heap.size wr w2:=⟨hb2.os,hb2.tape,hb2.output,hb2.size,hb2.block⟩
      have KP2:=hid (And.intro ((hb2c.cell (p:=⟨p,0,none⟩) (by simp only;omega)).trans q0) ((hb2c.cell (p:=⟨p,1,none⟩) (by simp only;omega)).trans q1))
      have KP2S:Hid (((w2.setCell ⟨w.heap.size+1,0,none⟩ (.int .i64 jp)).setCell ⟨w.heap.size+1,1,none⟩ (.int .i64 jq)).cell? ⟨p,0,none⟩=some (.int .i64 jp)∧((w2.setCell ⟨w.heap.size+1,0,none⟩ (.int .i64 jp)).setCell ⟨w.heap.size+1,1,none⟩ (.int .i64 jq)).cell? ⟨p,1,none⟩=some (.int .i64 jq)):=by
       have hkS:Zb (fun b=>b=w.heap.size+1) w2 ((w2.setCell ⟨w.heap.size+1,0,none⟩ (.int .i64 jp)).setCell ⟨w.heap.size+1,1,none⟩ (.int .i64 jq)):=((Zb.refl (fun b=>b=w.heap.size+1) w2).setCell (p:=⟨w.heap.size+1,0,none⟩) (.inl rfl) _).setCell (p:=⟨w.heap.size+1,1,none⟩) (.inl rfl) _
       exact⟨hkS.cell KP2.out.1 hne,hkS.cell KP2.out.2 hne⟩
      have hr5:=(hb2c.block _ (by omega)).trans HR4.out
      have rx0:=Za hr5 0
      have rx1:=Za hr5 1
      have ry0:=Zd hr5 0
      have ry1:=Zd hr5 1
      have HM2:=hid (And.intro hb2c (And.intro hm2 hr5))
      clear hb2 hm2 hb2c hr5))
     all_goals
      go_wp2
      obtain⟨hMv,hF0l,hF0F,hkw⟩:=HMV.out
      obtain⟨hb2,hm2,hr5⟩:=HM2.out
      have a1:=heap_setCell_same w2 _ 0 _ _ (.int .i64 jp) hr5
      have a2:=heap_setCell_same _ _ 1 _ _ (.int .i64 jq) a1
      have b0:((w2.setCell ⟨w.heap.size+1,0,none⟩ (.int .i64 jp)).setCell ⟨w.heap.size+1,1,none⟩ (.int .i64 jq)).cell? ⟨w.heap.size+1,0,none⟩=some (.int .i64 jp):=Za a2 0
      have b1:((w2.setCell ⟨w.heap.size+1,0,none⟩ (.int .i64 jp)).setCell ⟨w.heap.size+1,1,none⟩ (.int .i64 jq)).cell? ⟨w.heap.size+1,1,none⟩=some (.int .i64 jq):=Za a2 1
      try simp only[Exit.inBlock,Exit.then]
      refine bodyPost_ret (v:=.tuple #[.agg #[.int .i64 jp,.int .i64 jq],.func (.func 190) #[] bs,.nilIface]) (by simp[results,Tryz.results114,go_sem,b0,b1]) rfl ?_
      have hz2:=hb2.size
      have hkS:Zb (fun b=>b=w.heap.size+1) w2 ((w2.setCell ⟨w.heap.size+1,0,none⟩ (.int .i64 jp)).setCell ⟨w.heap.size+1,1,none⟩ (.int .i64 jq)):=((Zb.refl (fun b=>b=w.heap.size+1) w2).setCell (p:=⟨w.heap.size+1,0,none⟩) (.inl rfl) _).setCell (p:=⟨w.heap.size+1,1,none⟩) (.inl rfl) _
      refine⟨_,rfl,?_,?_,?_⟩
      · exact(hkw.trans (Zb.of_below hb2)).trans (hkS.mono (fun b _ e=>.inr (by omega)))
      · exact((hMv.pf.below hb2).keeps hkS (fun b e e2=>by
         subst e2
         rcases hMv.sub _ e with e|e
         · have:=hF0l _ e;omega
         · omega)).wider (fun b e=>by
         rcases hMv.sub b e with e|e
         · exact .inl (hF0F b e)
         · exact .inr (by omega))
      · exact(hm2.keeps hkS (fun b h1 e=>by omega)).down (by omega)
end
end
section
open Go.RowKit
section
variable {w:World} {F:Nat→Prop} {bx bf bl:Nat} {sv:Value} {s s':List Nd} {rs:List Sp}
theorem Zgi (hD:Zk w F bx bf bl sv ⟨s,rs⟩) (r:Int) (h:r < 0∨(rs.length:Int)≤r) :
 Calls Tryz.prog 70 #[ptr bl,.int .i64 r] w fun e w'=>e=.returned (.iface 141 (.agg #[.int .i64 r]))∧Below w.heap.size w w':=by
 have C:=hid (J0 hD r h)
 clear hD h
 go_enter Tryz.func70,Tryz.ntmps70
 go_wp2_with (
  go_at_call 69
  refine C.out.mono ?_
  rintro e w1 ⟨rfl,hb1⟩
  have HB1:=hid hb1
  clear hb1)
 go_ret
 exact⟨rfl,HB1.out.alloc HB1.out.size _⟩
def TDel (jp jq:Int) (f:Mvf) (F:Nat→Prop) (w:World) (bf:Nat) (s':List Nd) (e:Ending) (w':World):Prop:=∃ mv,e=.returned (.tuple #[.agg #[.int .i64 jp,.int .i64 jq],mv,.nilIface])∧Zb F w w'∧PFor w' (grow F w) bf s'∧ZR w.heap.size w' mv f
theorem Zdr {W w2:World} {mv:Value} {f:Mvf} (hg:GG w) (hD:Zk w F bx bf bl sv ⟨s,rs⟩) (hB:Below w.heap.size w W) (hk:Zb (fun b=>Yb F bx bl sv b∧b < w.heap.size) W w2) (hf:PFor w2 (grow (fun b=>Yb F bx bl sv b∧b < w.heap.size) W) bf s'):Zb F w w2∧Zk w2 (grow F w) bx bf bl sv ⟨s',rs⟩:=by
 have hz:=hB.size
 have h:=(JD (hg.below hB) (hD.below hB) (hk.mono (fun b _ e=>e.1)) hk.size (m:=w2.heap.size) (hf.narrow.wider (fun b e=>by
  rcases e with ⟨e|e,e2⟩
  · exact .inl e.1
  · exact .inr ⟨e,e2⟩))).1
 refine⟨(Zb.of_below hB).trans (h.1.mono (fun b _ e=>.inl e)),h.2.widen (fun b e=>?_)⟩
 rcases e with e|e
 · exact .inl e
 · exact .inr (by omega)
def LDel (w:World) (F:Nat→Prop) (bx bf bl:Nat) (sv:Value) (s':List Nd) (rs:List Sp) (f:Mvf) (jp jq:Int) (s7 s8:Value) (wc:World):Prop :=
 ∃ (p:Nat) (mv:Value) (m:Nat),s7=.pointer (some ⟨p,0,none⟩)∧s8=mv∧wc.heap[p]?=some (.cells #[.int .i64 jp,.int .i64 jq] 37 (0,0))∧Zb F w wc∧Zk wc (grow F w) bx bf bl sv ⟨s',rs⟩∧ZR m wc mv f∧w.heap.size≤m∧w.heap.size≤p
theorem ld_new {W w2:World} {mv:Value} {f:Mvf} {jp jq:Int} (hg:GG w) (hD:Zk w F bx bf bl sv ⟨s,rs⟩) (hB:Below w.heap.size w W) (hk:Zb (fun b=>Yb F bx bl sv b∧b < w.heap.size) W w2) (hf:PFor w2 (grow (fun b=>Yb F bx bl sv b∧b < w.heap.size) W) bf s') (hm:ZR W.heap.size w2 mv f) :
 LDel w F bx bf bl sv s' rs f jp jq (.pointer (some ⟨w2.heap.size,0,none⟩)) mv (w2.alloc (.cells #[.int .i64 jp,.int .i64 jq] 37)):=by
 have hz:=hB.size
 have hz2:=hk.size
 have hbA:Below w2.heap.size w2 (w2.alloc (.cells #[.int .i64 jp,.int .i64 jq] 37)):=(Below.refl _ w2).alloc (Nat.le_refl _) _
 obtain⟨h1,h2⟩:=Zdr (mv:=mv) (f:=f) hg hD hB hk hf
 exact⟨_,mv,W.heap.size,rfl,rfl,heap_alloc_new w2 _,h1.trans (Zb.of_below hbA),h2.below hbA,hm.keeps (G:=fun _=>False) (Zb.of_below hbA) (fun _ _ e=>e),hz,by omega⟩
theorem ld_set {W0 w2:World} {mv:Value} {f:Mvf} {jp jq:Int} (hg:GG w) (hD:Zk w F bx bf bl sv ⟨s,rs⟩) (hB0:Below w.heap.size w W0) (hk:Zb (fun b=>Yb F bx bl sv b∧b < w.heap.size) (W0.alloc (.cells #[.int .i64 0,.int .i64 0] 37)) w2) (hf:PFor w2 (grow (fun b=>Yb F bx bl sv b∧b < w.heap.size) (W0.alloc (.cells #[.int .i64 0,.int .i64 0] 37))) bf s') (hm:ZR (W0.alloc (.cells #[.int .i64 0,.int .i64 0] 37)).heap.size w2 mv f) :
 LDel w F bx bf bl sv s' rs f jp jq (.pointer (some ⟨W0.heap.size,0,none⟩)) mv ((w2.setCell ⟨W0.heap.size,0,none⟩ (.int .i64 jp)).setCell ⟨W0.heap.size,1,none⟩ (.int .i64 jq)):=by
 have hz:=hB0.size
 have hz2:=hk.size
 have hzA:(W0.alloc (.cells #[.int .i64 0,.int .i64 0] 37)).heap.size=W0.heap.size+1:=by simp
 have hp:=(hk.block W0.heap.size (by simp) (fun e=>by omega)).trans (heap_alloc_new W0 _)
 have a1:=heap_setCell_same w2 _ 0 _ _ (.int .i64 jp) hp
 have a2:=heap_setCell_same _ _ 1 _ _ (.int .i64 jq) a1
 have hkS:Zb (fun b=>b=W0.heap.size) w2 ((w2.setCell ⟨W0.heap.size,0,none⟩ (.int .i64 jp)).setCell ⟨W0.heap.size,1,none⟩ (.int .i64 jq)):=((Zb.refl (fun b=>b=W0.heap.size) w2).setCell (p:=⟨W0.heap.size,0,none⟩) (.inl rfl) _).setCell (p:=⟨W0.heap.size,1,none⟩) (.inl rfl) _
 have hk3:Zb (fun b=>Yb F bx bl sv b∧b<w.heap.size) W0 ((w2.setCell ⟨W0.heap.size,0,none⟩ (.int .i64 jp)).setCell ⟨W0.heap.size,1,none⟩ (.int .i64 jq)):=(((Zb.refl _ W0).alloc _).trans (hk.mono (fun b _ e=>.inl e))).trans (hkS.mono (fun b _ e=>.inr (by omega)))
 have hf3:=hf.keeps hkS (fun b e e2=>by
  rcases e with e|e <;> omega)
 obtain⟨h1,h2⟩:=Zdr (mv:=mv) (f:=f) hg hD hB0 hk3 (hf3.wider (fun b e=>by
  rcases e with e|e
  · exact .inl e
  · exact .inr (by omega)))
 refine⟨_,mv,_,rfl,rfl,by rw[a2];rfl,h1,h2,hm.keeps hkS (fun b h1 e=>by omega),by omega,hz⟩
theorem Zgj (hg:GG w) (hD:Zk w F bx bf bl sv ⟨s,rs⟩) (hsm:Small rs) (h6:rs.length≤6) (r:Nat) (x:Sp) (hx:rs[r]?=some x) (jp jq:Int) (f:Mvf)
 (hT:∀ W F',Below w.heap.size w W→PFor W F' bf s→(∀ b,F' b→¬ Hold b)→Calls Tryz.prog 114 #[ptr bf,spV x] W (TDel jp jq f F' W bf s')) :
 Calls Tryz.prog 70 #[ptr bl,.int .i64 (r:Int)] w fun e w'=>e=.returned .nilIface∧Zb F w w'∧Zv w' (grow F w) bx ⟨s',(rs.map (mvSp f)).set r ⟨jp,jq,jp,jq⟩⟩:=by
 have C:=hid (J1 hD r x hx)
 have c0:w.cell? ⟨bl,0,none⟩=some (ptr bf):=Za hD.list 0
 have hll:=Zc hD.list
 have hr:r<rs.length:=(List.getElem?_eq_some_iff.1 hx).1
 obtain⟨gS,cS,hsv,hgl,-⟩:=hD.spanCells hx
 have HSV:=hid hsv
 have CT:=hid (fun W (hB:Below w.heap.size w W)=>hT W (fun b=>Yb F bx bl sv b∧b<w.heap.size) hB (hD.nodes.narrow.below hB) (fun b e=>e.1.2.2.2.2))
 have HT:=hid (And.intro hg (And.intro hD (And.intro hsm hx)))
 clear hD hx hT hg hsm hsv
 go_enter Tryz.func70,Tryz.ntmps70
 go_wp2_with (
  go_at_call 69
  refine C.out.mono ?_
  rintro e w1 ⟨rfl,hb1⟩
  clear C
  obtain⟨W0,hW0⟩:∃ W0,w1.alloc (.cells #[.int .i64 x.a,.int .i64 x.b,.int .i64 x.c,.int .i64 x.d] 79)=W0:=⟨_,rfl⟩
  have HW0:=hid hW0
  have hb0:Below w.heap.size w W0:=by rw[← hW0];exact hb1.alloc hb1.size _
  have hs0:W0.heap[w1.heap.size]?=some (.cells #[.int .i64 x.a,.int .i64 x.b,.int .i64 x.c,.int .i64 x.d] 79 (0,0)):=by rw[← hW0];exact heap_alloc_new w1 _
  have hz1:=hb1.size
  have HB0:=hid hb0
  have HS0:=hid hs0
  clear hb1 hW0 hb0 hs0)
 rw[HW0.out]
 clear HW0
 have d0:=(HB0.out.cell (p:=⟨bl,0,none⟩) hll).trans c0
 have s0:=Za HS0.out 0
 have s1:=Za HS0.out 1
 have s2:=Za HS0.out 2
 have s3:=Za HS0.out 3
 have hl0:=Zc HS0.out
 have hz0:=HB0.out.size
 have hne:¬ bl=W0.heap.size:=by omega
 have hne1:¬ w1.heap.size=W0.heap.size:=by omega
 have KEEP:=hid (fun (W:World) (hK:Zb (fun b=>Yb F bx bl sv b∧b<w.heap.size) W0 W)=>And.intro (hK.cell d0 (fun e=>e.1.2.2.1 rfl)) (And.intro (hK.cell s0 (fun e=>Nat.not_lt.2 hz1 e.2)) (And.intro (hK.cell s1 (fun e=>Nat.not_lt.2 hz1 e.2)) (And.intro (hK.cell s2 (fun e=>Nat.not_lt.2 hz1 e.2)) (hK.cell s3 (fun e=>Nat.not_lt.2 hz1 e.2))))))
 go_cut [6,7,8] from 18 to 27 (fun s6 s7 s8 wc=>s6=.nilIface∧LDel w F bx bf bl sv s' rs f jp jq s7 s8 wc)
 case first =>
  go_region_held3 (fun w'=>w'.cell? ⟨bl,0,none⟩=some (ptr bf)∧w'.cell? ⟨w1.heap.size,0,none⟩=some (.int .i64 x.a)∧w'.cell? ⟨w1.heap.size,1,none⟩=some (.int .i64 x.b)∧w'.cell? ⟨w1.heap.size,2,none⟩=some (.int .i64 x.c)∧w'.cell? ⟨w1.heap.size,3,none⟩=some (.int .i64 x.d)) (first|exact KEEP.out _ HK2.out|exact KEEP.out _ (HK2.out.alloc _)|exact KEEP.out _ ((Zb.refl _ W0).alloc _)|exact KEEP.out _ ((HK2.out.setCell (p:=⟨W0.heap.size,0,none⟩) (.inr (Nat.le_refl _)) _).setCell (p:=⟨W0.heap.size,1,none⟩) (.inr (Nat.le_refl _)) _)|go_keep) ((
   go_at_call 114
   refine(CT.out _ ?_).mono ?_
   · first | exact HB0.out.drew|exact HB0.out.drew.alloc HB0.out.size _
   rintro e w2 ⟨mv,rfl,hk2,hf2,hm2⟩
   obtain⟨gm,lm,rfl,_,_⟩:=hm2.runs
   first
    | (have HK2:=hid (show Zb (fun b=>Yb F bx bl sv b∧b<w.heap.size) W0 w2 from ⟨hk2.os,hk2.tape,hk2.output,hk2.size,hk2.block⟩))
    | (have HK2:=hid (show Zb (fun b=>Yb F bx bl sv b∧b<w.heap.size) W0 w2 from (((Zb.refl _ W0).alloc (.cells #[.int .i64 0,.int .i64 0] 37)).trans ((⟨hk2.os,hk2.tape,hk2.output,hk2.size,hk2.block⟩:Zb (fun b=>Yb F bx bl sv b∧b<w.heap.size) (W0.alloc (.cells #[.int .i64 0,.int .i64 0] 37)) w2).mono (fun b _ e=>.inl e)))))
   first
    | (have hpb:=(hk2.block W0.heap.size (by simp) (fun e=>Nat.not_lt.2 hz0 e.2)).trans (heap_alloc_new W0.drew (.cells #[.int .i64 0,.int .i64 0] 37))
       have pb0:=Za hpb 0
       have pb1:=Za hpb 1
       have pf0:=Zd hpb 0
       have pf1:=Zd hpb 1
       clear hpb)
    | skip
   have HT2:=hid (And.intro hk2 (And.intro hf2 hm2))
   clear hk2 hf2 hm2))
  all_goals
   go_wp2_with fail
   go_meet
   case rel =>
    obtain⟨hg,hD,_⟩:=HT.out
    obtain⟨hk2,hf2,hm2⟩:=HT2.out
    first
     | exact⟨rfl,ld_new (W:=W0.drew) hg hD HB0.out.drew hk2 hf2 hm2⟩
     | exact⟨rfl,ld_set (W0:=W0.drew) hg hD HB0.out.drew hk2 hf2 hm2⟩
 case rest =>
  obtain⟨rfl,p,mv,m,rfl,h8,hp,hkc,hdc,hmc,hwm,hwp⟩:=hcut
  replace h8:=h8.symm
  subst h8
  obtain⟨gm,lm,rfl,_,_⟩:=hmc.runs
  have hsv:=HSV.out
  subst hsv
  obtain⟨hg,hD,hsm,hx⟩:=HT.out
  have CF:=hid (Zdy hdc (fun b e=>by have:=(hD.spans.lt b e).2;omega) hmc hsm h6)
  have hpl:=Zc hp
  have hpg:¬ p=gS:=by omega
  have l1:=Za hdc.list 0
  have l2:=Za hdc.list 1
  have HP:=hid (And.intro hp (And.intro hkc hdc))
  clear hp hkc hdc hmc hg hD hsm hx
  go_wp2_with (
   go_at_call 110
   refine CF.out.mono ?_
   rintro e w3 ⟨rfl,hk3,hd3⟩
   clear CF
   have hx':(rs.map (mvSp f))[r]?=some (mvSp f x):=by rw[List.getElem?_map,HT.out.2.2.2];rfl
   have hp3:=(hk3.block p hpl (fun e=>hpg (Option.some.inj (show some gS=some p from e)).symm)).trans HP.out.1
   have p0:=Za hp3 0
   have p1:=Za hp3 1
   have k0:=Za hd3.list 0
   have k1:=Za hd3.list 1
   obtain⟨q0,q1,q2,q3,qf⟩:=hd3.spanAt hx' rfl
   have qf0:=qf (r*4)
   have qf1:=qf (r*4+1)
   have qf2:=qf (r*4+2)
   have qf3:=qf (r*4+3)
   have H3:=hid (And.intro hk3 (And.intro hd3 hx'))
   clear hk3 hd3 hx' hp3 qf)
  go_region
  go_wp2
  go_ret
  obtain⟨hp,hkc,hdc⟩:=HP.out
  obtain⟨hk3,hd3,hx'⟩:=H3.out
  have hFg:F gS:=(HT.out.2.1.apart gS rfl).1
  have hk:Zb F w w3:=hkc.trans (hk3.mono (fun b _ e=>.inl (HT.out.2.1.apart b e).1))
  have hd:=(hd3.setAll (g:=gS) (c:=cS) (by simp) hx' jp jq jp jq).below (Zj (Below.refl _ _) 1)
  exact⟨rfl,(((((hk.setCell (p:=⟨gS,r*4,none⟩) (.inl hFg) _).setCell (p:=⟨gS,r*4+1,none⟩) (.inl hFg) _).setCell (p:=⟨gS,r*4+2,none⟩) (.inl hFg) _).setCell (p:=⟨gS,r*4+3,none⟩) (.inl hFg) _).drew),_,_,_,hd⟩
end
theorem Zgu {w:World} {F:Nat→Prop} {bx:Nat} {s:List Nd} {rs:List Sp} (hg:GG w) (hP:Zv w F bx ⟨s,rs⟩) (r:Int) (h:r < 0∨(rs.length:Int)≤r) {a y:Int} (hE:Z2 (.iface 141 (.agg #[.int .i64 r])) a y) :
 Calls Tryz.prog 37 #[ptr bx,.int .i64 r] w (ZY F w bx ⟨s,rs⟩ (errV a y)):=by
 have HP:=hid hP
 obtain⟨bf,bl,sv,hD⟩:=hP
 have C:=hid (Zgi hD r h)
 have c1:w.cell? ⟨bx,1,none⟩=some (ptr bl):=Za hD.doc 1
 have E:=hid (fun w1 (hb:Below w.heap.size w w1)=>hE w1 (hg.below hb).1)
 clear hD hg hE h
 go_enter Tryz.func37,Tryz.ntmps37
 go_wp2_with (first
  | (go_at_call 70;refine C.out.mono ?_;rintro e w1 ⟨rfl,hb1⟩
     have HB1:=hid hb1
     clear hb1)
  | (go_at_call 46;refine(E.out _ HB1.out).mono ?_;rintro e w2 ⟨rfl,hb2⟩
     have HB2:=hid (HB1.out.trans (hb2.mono HB1.out.size))
     clear hb2))
 go_ret
 exact⟨rfl,HP.out.after HB2.out⟩
theorem ZdD {w:World} {F:Nat→Prop} {bx:Nat} {s s':List Nd} {rs:List Sp} (hg:GG w) (hP:Zv w F bx ⟨s,rs⟩) (hsm:Small rs) (h6:rs.length≤6) (r:Nat) (x:Sp) (hx:rs[r]?=some x) (jp jq:Int) (f:Mvf)
 (hT:∀ W F' bf,Below w.heap.size w W→PFor W F' bf s→(∀ W',Zb F' W W'→Tabs W')→Calls Tryz.prog 114 #[ptr bf,spV x] W (TDel jp jq f F' W bf s')) :
 Calls Tryz.prog 37 #[ptr bx,.int .i64 (r:Int)] w (ZY F w bx ⟨s',(rs.map (mvSp f)).set r ⟨jp,jq,jp,jq⟩⟩ (errV 0 0)):=by
 have HG:=hid hg
 obtain⟨bf,bl,sv,hD⟩:=hP
 have C:=hid (Zgj hg hD hsm h6 r x hx jp jq f (fun W F' hB hP hh=>hT W F' bf hB hP (fun W' hk=>((hg.below hB).keeps hk (fun b h1 h2=>hh b h2 h1)).2)))
 have c1:w.cell? ⟨bx,1,none⟩=some (ptr bl):=Za hD.doc 1
 clear hD hg hx hsm hT
 go_enter Tryz.func37,Tryz.ntmps37
 go_wp2_with (first
  | (go_at_call 70;refine C.out.mono ?_;rintro e w1 ⟨rfl,hk1,hp1⟩
     have H1:=hid (And.intro hk1 hp1)
     clear hk1 hp1)
  | (go_at_call 46;refine(JP _).mono ?_;rintro e w2 ⟨rfl,hb2⟩
     have H2:=hid (And.intro (H1.out.1.trans (Zb.of_below hb2)) (H1.out.2.keeps (G:=fun _=>False) (Zb.of_below hb2) (fun _ _ e=>e)))
     clear hb2))
 go_ret
 exact⟨by simp[errV],H2.out.1,H2.out.2⟩
end
end Go.Proofs.YtabogkonklplcaaGreatDoor
