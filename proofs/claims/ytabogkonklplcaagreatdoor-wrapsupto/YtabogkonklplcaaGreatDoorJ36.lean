import Derived.Test.YtabogkonklplcaaGreatDoorJ31
import Derived.Test.YtabogkonklplcaaGreatDoorJ26
import Derived.Test.YtabogkonklplcaaGreatDoorJ24
import Derived.Shelf.Abstract
import Derived.Deep.RegionHeld3
import Derived.Test.YtabogkonklplcaaGreatDoorJ35
import Derived.Test.YtabogkonklplcaaGreatDoorJ25
namespace Go.Proofs.YtabogkonklplcaaGreatDoor
set_option linter.unusedSimpArgs false
set_option linter.unusedVariables false
set_option maxRecDepth 20000
set_option maxHeartbeats 8000000
section
open Go.RowKit Go.Lib
theorem XA {w:World} {g c n:Nat} {rs:List Sp} (hrow:w.ownsRow 0 79 4 (.slice (some ⟨g,0,none⟩) n c) n (rs.flatMap Sp.cells)) {q:Nat} {r r':Sp} (hr:rs[q]?=some r) (j:Nat) (hj:j < 4) (u:Value) (he:r'.cells=r.cells.set j u) :
 (w.setCell ⟨g,q*4+j,none⟩ u).ownsRow 0 79 4 (.slice (some ⟨g,0,none⟩) n c) n ((rs.set q r').flatMap Sp.cells):=by
 have:=(hrow.stored (q*4+j) u).1
 rw[Zem rs q r r' hr j hj u he] at this
 exact this
def FolInv (w:World) (g:Nat) (rv:Value) (rs:List Sp) (f:Mvf) (t:Value) (wr:World):Prop :=
 ∃ q:Nat,q≤rs.length∧t=.int .i64 (q:Int)∧wr.ownsRow 0 79 4 rv rs.length (((rs.take q).map (mvSp f)++rs.drop q).flatMap Sp.cells)∧Zb (fun b=>b=g) w wr
theorem Zgp {w:World} {bl bf g c m:Nat} {mv:Value} {f:Mvf} {rs:List Sp} (h:w.heap[bl]?=some (.cells #[ptr bf,.slice (some ⟨g,0,none⟩) rs.length c] 176 (0,0))) (hr:w.ownsRow 0 79 4 (.slice (some ⟨g,0,none⟩) rs.length c) rs.length (rs.flatMap Sp.cells)) (hgl:g≠bl) (hgm:g < m) (hm:ZR m w mv f) (hsm:Small rs) (h6:rs.length≤6) :
 Calls Tryz.prog 110 #[ptr bl,mv] w fun e w'=>e=.returned (.tuple #[])∧Zb (fun b=>b=g) w w'∧w'.ownsRow 0 79 4 (.slice (some ⟨g,0,none⟩) rs.length c) rs.length ((rs.map (mvSp f)).flatMap Sp.cells):=by
 have c1:w.cell? ⟨bl,1,none⟩=some (.slice (some ⟨g,0,none⟩) rs.length c):=Za h 1
 have hl:=Zc h
 obtain⟨gf,lb,rfl,eg,hrun⟩:=hm.runs
 have HRUN:=hid hrun
 have HR:=hid hr
 have HSM:=hid hsm
 clear h hr hm hrun hsm
 go_enter Tryz.func110,Tryz.ntmps110
 go_wp2
 go_loopw [11] (FolInv w g (.slice (some ⟨g,0,none⟩) rs.length c) rs f) (fun t _=>Yj rs.length t)
 case atStart=>exact⟨0,Nat.zero_le _,rfl,by simpa using HR.out,Zb.refl _ _⟩
 case round =>
  obtain⟨q,hq,rfl,hR,hK⟩:=hrel
  by_cases hlt:q<rs.length
  · have hlI:(q:Int)<(rs.length:Int):=by omega
    obtain⟨z,hz⟩:∃ z,rs[q]?=some z:=⟨_,List.getElem?_eq_getElem hlt⟩
    obtain⟨za,zb,zc,zd⟩:=z
    obtain⟨hb0,hb1,hd0,hd1⟩:=HSM.out _ (List.mem_of_getElem? hz)
    simp only at hb0 hb1 hd0 hd1
    have hgz:=YR (mvSp f) rs q _ hz
    have e0:wr.cell? ⟨g,q*4,none⟩=some (.int .i64 za):=by have:=hR.cellAt (q*4+0) (by omega);rw[ZX _ q _ hgz 0 (by omega)] at this;simpa[Sp.cells] using this
    have e1:wr.cell? ⟨g,q*4+1,none⟩=some (.int .i64 zb):=by have:=hR.cellAt (q*4+1) (by omega);rw[ZX _ q _ hgz 1 (by omega)] at this;simpa[Sp.cells] using this
    have e2:wr.cell? ⟨g,q*4+2,none⟩=some (.int .i64 zc):=by have:=hR.cellAt (q*4+2) (by omega);rw[ZX _ q _ hgz 2 (by omega)] at this;simpa[Sp.cells] using this
    have e3:wr.cell? ⟨g,q*4+3,none⟩=some (.int .i64 zd):=by have:=hR.cellAt (q*4+3) (by omega);rw[ZX _ q _ hgz 3 (by omega)] at this;simpa[Sp.cells] using this
    have hgl2:g<wr.heap.size:=World.block_lt_of_cell? wr _ e0
    have hz2:=hK.size
    have c1r:wr.cell? ⟨bl,1,none⟩=some (.slice (some ⟨g,0,none⟩) rs.length c):=hK.cell c1 (fun e=>hgl e.symm)
    have hll:bl<wr.heap.size:=by omega
    have hbg:¬ bl=g:=fun e=>hgl e.symm
    have hwg:¬ wr.heap.size=g:=by omega
    have hwb:¬ wr.heap.size=bl:=by omega
    have hkA:Zb (fun b=>b=g) w (wr.alloc (.cells #[.int .i64 za,.int .i64 zb,.int .i64 zc,.int .i64 zd] 79)).drew:=(hK.alloc _).drew
    have hSp:=heap_alloc_new wr (.cells #[.int .i64 za,.int .i64 zb,.int .i64 zc,.int .i64 zd] 79)
    obtain⟨v0,v1,hv01⟩:∃ v0 v1,f za zb=(v0,v1):=⟨_,_,rfl⟩
    obtain⟨u0,u1,hu01⟩:∃ u0 u1,f zc zd=(u0,u1):=⟨_,_,rfl⟩
    have CM1:=hid (HRUN.out (fun b=>b=g) _ hkA (fun b hb e=>by omega) za zb hb0 hb1)
    have CM2:=hid (fun W (hk:Zb (fun b=>b=g) w W)=>HRUN.out (fun b=>b=g) W hk (fun b hb e=>by omega) zc zd hd0 hd1)
    rw[hv01] at CM1
    rw[hu01] at CM2
    have hmz:mvSp f ⟨za,zb,zc,zd⟩=⟨v0,v1,u0,u1⟩:=by
     unfold mvSp
     simp only[hv01,hu01]
    have HMZ:=hid hmz
    have HKA:=hid hkA
    have HSp:=hid hSp
    have hrlen:((rs.take q).map (mvSp f)++rs.drop q).length=rs.length:=by simp;omega
    have HGZ:=hid hgz
    have HZ:=hid hz
    have HR2:=hid hR
    have HK:=hid hK
    clear hgz hz hR hK hkA hSp hmz hv01 hu01
    go_wp2
    go_region_held3 (fun w'=>w'.cell? ⟨bl,1,none⟩=some (.slice (some ⟨g,0,none⟩) rs.length c)∧w'.cell? ⟨wr.heap.size,0,none⟩=some (.int .i64 za)∧w'.cell? ⟨wr.heap.size,1,none⟩=some (.int .i64 zb)∧w'.cell? ⟨wr.heap.size,2,none⟩=some (.int .i64 zc)∧w'.cell? ⟨wr.heap.size,3,none⟩=some (.int .i64 zd)) (first|exact KP3.out|exact KP2.out|exact KP1.out|go_keep) (first
     | (go_at_fn gf
        refine(CM2.out _ HKB.out).mono ?_
        rintro e w2 ⟨rfl,hb2⟩
        have hB2:Below w1.heap.size w1 w2:=hb2
        obtain⟨k0,k1,k2,k3,k4⟩:=KP1.out
        have hs2:=(hB2.block _ (Zc HS1.out)).trans HS1.out
        have t1:=(hB2.cell (p:=⟨bl,1,none⟩) (World.block_lt_of_cell? w1 _ k0)).trans k0
        have KP2:=hid (And.intro t1 (And.intro ((hB2.cell (p:=⟨wr.heap.size,0,none⟩) (Zc HS1.out)).trans k1) (And.intro ((hB2.cell (p:=⟨wr.heap.size,1,none⟩) (Zc HS1.out)).trans k2) (And.intro ((hB2.cell (p:=⟨wr.heap.size,2,none⟩) (Zc HS1.out)).trans k3) ((hB2.cell (p:=⟨wr.heap.size,3,none⟩) (Zc HS1.out)).trans k4)))))
        have hkC:Zb (fun b=>b=g) wr w2:=(HKW.out.trans (Zb.of_below hB2))
        have hrow2:=(Zb.of_below (F:=fun _=>False) hB2).row HROW1.out (fun _ _ e=>e)
        have n0:w2.cell? ⟨g,q*4,none⟩=some (.int .i64 za):=by have:=hrow2.cellAt (q*4+0) (by omega);rw[ZX _ q _ HGZ.out 0 (by omega)] at this;simpa[Sp.cells] using this
        have n1:w2.cell? ⟨g,q*4+1,none⟩=some (.int .i64 zb):=by have:=hrow2.cellAt (q*4+1) (by omega);rw[ZX _ q _ HGZ.out 1 (by omega)] at this;simpa[Sp.cells] using this
        have n2:w2.cell? ⟨g,q*4+2,none⟩=some (.int .i64 zc):=by have:=hrow2.cellAt (q*4+2) (by omega);rw[ZX _ q _ HGZ.out 2 (by omega)] at this;simpa[Sp.cells] using this
        have n3:w2.cell? ⟨g,q*4+3,none⟩=some (.int .i64 zd):=by have:=hrow2.cellAt (q*4+3) (by omega);rw[ZX _ q _ HGZ.out 3 (by omega)] at this;simpa[Sp.cells] using this
        have f0:=hrow2.frozenAt (q*4)
        have f1:=hrow2.frozenAt (q*4+1)
        have f2:=hrow2.frozenAt (q*4+2)
        have f3:=hrow2.frozenAt (q*4+3)
        have hkS:∀ (a0 a1 a2 a3:Value),Zb (fun b=>b=g) w2 ((((w2.setCell ⟨g,q*4,none⟩ a0).setCell ⟨g,q*4+1,none⟩ a1).setCell ⟨g,q*4+2,none⟩ a2).setCell ⟨g,q*4+3,none⟩ a3):=fun a0 a1 a2 a3=>((((Zb.refl (fun b=>b=g) w2).setCell (p:=⟨g,q*4,none⟩) (.inl rfl) _).setCell (p:=⟨g,q*4+1,none⟩) (.inl rfl) _).setCell (p:=⟨g,q*4+2,none⟩) (.inl rfl) _).setCell (p:=⟨g,q*4+3,none⟩) (.inl rfl) _
        have KP3:=hid (And.intro ((hkS (.int .i64 v0) (.int .i64 v1) (.int .i64 u0) (.int .i64 u1)).cell KP2.out.1 hbg) (And.intro ((hkS (.int .i64 v0) (.int .i64 v1) (.int .i64 u0) (.int .i64 u1)).cell KP2.out.2.1 hwg) (And.intro ((hkS (.int .i64 v0) (.int .i64 v1) (.int .i64 u0) (.int .i64 u1)).cell KP2.out.2.2.1 hwg) (And.intro ((hkS (.int .i64 v0) (.int .i64 v1) (.int .i64 u0) (.int .i64 u1)).cell KP2.out.2.2.2.1 hwg) ((hkS (.int .i64 v0) (.int .i64 v1) (.int .i64 u0) (.int .i64 u1)).cell KP2.out.2.2.2.2 hwg)))))
        have HROW2:=hid hrow2
        have HKC:=hid (And.intro hB2 (hkS (.int .i64 v0) (.int .i64 v1) (.int .i64 u0) (.int .i64 u1)))
        clear hb2 hB2 k0 k1 k2 k3 k4 hs2 t1 hkC hrow2 hkS)
     | (go_at_fn gf
        refine CM1.out.mono ?_
        clear CM1
        rintro e w1 ⟨rfl,hb1⟩
        have hB1:Below (wr.alloc (.cells #[.int .i64 za,.int .i64 zb,.int .i64 zc,.int .i64 zd] 79)).heap.size (wr.alloc (.cells #[.int .i64 za,.int .i64 zb,.int .i64 zc,.int .i64 zd] 79)) w1:=⟨hb1.os,hb1.tape,hb1.output,hb1.size,hb1.block⟩
        have hs1:=(hB1.block wr.heap.size (by simp)).trans HSp.out
        have hKW:Zb (fun b=>b=g) wr w1:=((Zb.refl (fun b=>b=g) wr).alloc _).trans (Zb.of_below hB1)
        have KP1:=hid (And.intro (hKW.cell c1r hbg) (And.intro (show w1.cell? ⟨wr.heap.size,0,none⟩=some (.int .i64 za) from Za hs1 0) (And.intro (show w1.cell? ⟨wr.heap.size,1,none⟩=some (.int .i64 zb) from Za hs1 1) (And.intro (show w1.cell? ⟨wr.heap.size,2,none⟩=some (.int .i64 zc) from Za hs1 2) (show w1.cell? ⟨wr.heap.size,3,none⟩=some (.int .i64 zd) from Za hs1 3)))))
        have HKB:=hid (HK.out.trans (hKW.mono (fun k _ e=>.inl e)))
        have HKW:=hid hKW
        have HS1:=hid hs1
        have HROW1:=hid ((Zb.of_below (F:=fun _=>False) (((Below.refl _ wr).alloc (Nat.le_refl _) _).trans (hB1.mono (by simp)))).row HR2.out (fun _ _ e=>e))
        clear hb1 hB1 hs1 hKW))
    all_goals
     go_wp2
     go_roundw
     case rel =>
      have d0:=XA HROW2.out HGZ.out (r':=⟨v0,zb,zc,zd⟩) 0 (by omega) (.int .i64 v0) rfl
      have d1:=XA d0 (List.getElem?_set_self (by rw[hrlen];exact hlt)) (r':=⟨v0,v1,zc,zd⟩) 1 (by omega) (.int .i64 v1) rfl
      rw[List.set_set] at d1
      have d2:=XA d1 (List.getElem?_set_self (by rw[hrlen];exact hlt)) (r':=⟨v0,v1,u0,zd⟩) 2 (by omega) (.int .i64 u0) rfl
      rw[List.set_set] at d2
      have d3:=XA d2 (List.getElem?_set_self (by rw[hrlen];exact hlt)) (r':=⟨v0,v1,u0,u1⟩) 3 (by omega) (.int .i64 u1) rfl
      rw[List.set_set] at d3
      have hs:=Jm (mvSp f) rs q _ HZ.out
      rw[HMZ.out] at hs
      rw[hs] at d3
      refine⟨q+1,by omega,by go_num,d3,?_⟩
      exact((HKB.out.trans (Zb.of_below HKC.out.1)).trans (HKC.out.2.mono (fun k _ e=>.inl e)))
     case measure =>
      show rs.length - ((q:Int)+1).toNat<rs.length - ((q:Int)).toNat
      omega
  · obtain rfl:q=rs.length:=by omega
    have hlI:¬ (rs.length:Int)<(rs.length:Int):=by omega
    rw[List.take_of_length_le (Nat.le_refl _),List.drop_of_length_le (Nat.le_refl _),List.append_nil] at hR
    have HR2:=hid hR
    have HK:=hid hK
    clear hR hK
    go_wp2
    go_end0
    exact⟨rfl,HK.out,HR2.out⟩
end
section
open Go.RowKit
section
variable {w:World} {F:Nat→Prop} {bx bf bl:Nat} {sv:Value} {s:List Nd} {rs:List Sp}
theorem Zk.moved {w':World} {rs':List Sp} (h:Zk w F bx bf bl sv ⟨s,rs⟩) (hk:Zb (fun b=>sv.ownBlock=some b) w w') (ho:w'.ownsRow 0 79 4 sv rs'.length (rs'.flatMap Sp.cells)):Zk w' F bx bf bl sv ⟨s,rs'⟩ :=
 ⟨h.Fx,h.Hx,by rw[hk.block bx (Zc h.doc) (fun e=>(h.apart bx e).2.2.1 rfl)];exact h.doc,h.Fl,h.Hl,h.ne,by rw[hk.block bl (Zc h.list) (fun e=>(h.apart bl e).2.2.2 rfl)];exact h.list,ho,h.apart,h.nodes.keeps hk (fun b hb e=>hb.2.2.2.1 e)⟩
theorem Zdy (hD:Zk w F bx bf bl sv ⟨s,rs⟩) {m:Nat} {mv:Value} {f:Mvf} (hgm:∀ b,sv.ownBlock=some b→b < m) (hm:ZR m w mv f) (hsm:Small rs) (h6:rs.length≤6) :
 Calls Tryz.prog 110 #[ptr bl,mv] w fun e w'=>e=.returned (.tuple #[])∧Zb (fun b=>sv.ownBlock=some b) w w'∧Zk w' F bx bf bl sv ⟨s,rs.map (mvSp f)⟩:=by
 rcases ZB hD.spans with ⟨h1,h2⟩|⟨g,c,h1⟩
 · have hr0:rs=[]:=List.length_eq_zero_iff.1 h2
   subst hr0
   refine(Zgo hD.list hD.spans mv).mono ?_
   rintro e w' ⟨rfl,hb⟩
   exact⟨rfl,Zb.of_below hb,hD.below hb⟩
 · simp only at h1
   have hl:=hD.list
   have hr:=hD.spans
   simp only at hr
   rw[h1] at hl hr
   have ha:=hD.apart g (by rw[h1];rfl)
   refine(Zgp hl hr ha.2.2.2 (hgm g (by rw[h1];rfl)) hm hsm h6).mono ?_
   rintro e w' ⟨rfl,hk,ho⟩
   have hk':Zb (fun b=>sv.ownBlock=some b) w w':=hk.mono (fun b _ e=>by rw[e,h1];rfl)
   refine⟨rfl,hk',hD.moved hk' ?_⟩
   rw[h1,List.length_map]
   exact ho
theorem ZaH (hD:Zk w F bx bf bl sv ⟨s,rs⟩) {m:Nat} {mv:Value} {f:Mvf} (hgm:∀ b,sv.ownBlock=some b→b < m) (hm:ZR m w mv f) (hsm:Small rs) (h6:rs.length≤6) :
 Calls Tryz.prog 64 #[ptr bx,mv,.nilIface] w fun e w'=>e=.returned .nilIface∧Zb (fun b=>sv.ownBlock=some b) w w'∧Zk w' F bx bf bl sv ⟨s,rs.map (mvSp f)⟩:=by
 have C:=hid (Zdy hD hgm hm hsm h6)
 have c1:w.cell? ⟨bx,1,none⟩=some (ptr bl):=Za hD.doc 1
 clear hD hm hsm
 go_enter Tryz.func64,Tryz.ntmps64
 go_wp2_with (go_at_call 110;refine C.out.mono ?_;rintro e w1 ⟨rfl,hk1,hd1⟩;have H1:=hid (And.intro hk1 hd1);clear hk1 hd1)
 go_ret
 exact⟨rfl,H1.out.1,H1.out.2⟩
end
theorem Zae {w w1 w2:World} {F:Nat→Prop} {bx bf bl:Nat} {sv:Value} {s s':List Nd} {rs rs':List Sp} (hD:Zk w F bx bf bl sv ⟨s,rs⟩) (hk1:Zb F w w1) (hk2:Zb (fun b=>sv.ownBlock=some b) w1 w2) (hd2:Zk w2 (grow F w) bx bf bl sv ⟨s',rs'⟩):Zb F w w2∧Zv w2 (grow F w) bx ⟨s',rs'⟩ :=
 ⟨hk1.trans (hk2.mono (fun b _ e=>.inl (hD.apart b e).1)),_,_,_,hd2⟩
theorem JD {w w1:World} {F:Nat→Prop} {bx bf bl m:Nat} {sv:Value} {s s':List Nd} {rs:List Sp} (hg:GG w) (hD:Zk w F bx bf bl sv ⟨s,rs⟩) (hk:Zb (Yb F bx bl sv) w w1) (hm1:w.heap.size≤m) (hf:PFor w1 (fun b=>Yb F bx bl sv b∨(w.heap.size≤b∧b < m)) bf s') :
 (Zb F w w1∧Zk w1 (grow F w) bx bf bl sv ⟨s',rs⟩)∧∀ b,sv.ownBlock=some b→b<m :=
 ⟨Xc hg hD hk (hf.wider (fun b h=>h.imp id And.left)) (Below.refl _ _),fun b e=>by have:=(hD.spans.lt b e).2;omega⟩
theorem Zgv {w:World} {F:Nat→Prop} {bx:Nat} {s s':List Nd} {rs:List Sp} {f:Mvf} (hg:GG w) (hP:Zv w F bx ⟨s,rs⟩) (hsm:Small rs) (h6:rs.length≤6) (A B C:Int)
 (hT:∀ (F':Nat→Prop) (bf:Nat),PFor w F' bf s→Calls Tryz.prog 94 #[ptr bf,.int .i64 A,.int .i64 B,.int .i64 C] w (TMv f F' w bf s')) :
 Calls Tryz.prog 54 #[ptr bx,.int .i64 A,.int .i64 B,.int .i64 C] w (ZY F w bx ⟨s',rs.map (mvSp f)⟩ (errV 0 0)):=by
 obtain⟨bf,bl,sv,hD⟩:=hP
 have C:=hid (hT _ _ hD.nodes)
 have c0:w.cell? ⟨bx,0,none⟩=some (ptr bf):=Za hD.doc 0
 have BG:=hid (fun w1 m=>JD (w1:=w1) (m:=m) (s':=s') hg hD)
 have AG:=hid (fun w1 w2=>Zae (w1:=w1) (w2:=w2) (s':=s') (rs':=rs.map (mvSp f)) hD)
 have HSM:=hid hsm
 clear hD hT hg hsm
 go_enter Tryz.func54,Tryz.ntmps54
 go_wp2_with first
  | (go_at_call 94;refine C.out.mono ?_;rintro e w1 ⟨mv,m,rfl,hk,h1,h2,hf,hm⟩
     have A1:=hid (BG.out w1 m hk h1 hf)
     have E1:=hid (ZaH A1.out.1.2 A1.out.2 hm HSM.out h6)
     clear hk h1 h2 hf hm)
  | (go_at_call 64;refine E1.out.mono ?_;rintro e w2 ⟨rfl,hk2,hd2⟩
     have A2:=hid (AG.out w1 w2 A1.out.1.1 hk2 hd2)
     clear hk2 hd2)
 go_ret
 exact⟨by simp[errV],A2.out.1,A2.out.2⟩
theorem ZgD {w:World} {F:Nat→Prop} {bx:Nat} {s s':List Nd} {rs:List Sp} {f:Mvf} (hg:GG w) (hP:Zv w F bx ⟨s,rs⟩) (hsm:Small rs) (h6:rs.length≤6) (A:Int)
 (hT:∀ (F':Nat→Prop) (bf:Nat),PFor w F' bf s→Calls Tryz.prog 97 #[ptr bf,.int .i64 A] w (TMv f F' w bf s')) :
 Calls Tryz.prog 60 #[ptr bx,.int .i64 A] w (ZY F w bx ⟨s',rs.map (mvSp f)⟩ (errV 0 0)):=by
 obtain⟨bf,bl,sv,hD⟩:=hP
 have C:=hid (hT _ _ hD.nodes)
 have c0:w.cell? ⟨bx,0,none⟩=some (ptr bf):=Za hD.doc 0
 have BG:=hid (fun w1 m=>JD (w1:=w1) (m:=m) (s':=s') hg hD)
 have AG:=hid (fun w1 w2=>Zae (w1:=w1) (w2:=w2) (s':=s') (rs':=rs.map (mvSp f)) hD)
 have HSM:=hid hsm
 clear hD hT hg hsm
 go_enter Tryz.func60,Tryz.ntmps60
 go_wp2_with first
  | (go_at_call 97;refine C.out.mono ?_;rintro e w1 ⟨mv,m,rfl,hk,h1,h2,hf,hm⟩
     have A1:=hid (BG.out w1 m hk h1 hf)
     have E1:=hid (ZaH A1.out.1.2 A1.out.2 hm HSM.out h6)
     clear hk h1 h2 hf hm)
  | (go_at_call 64;refine E1.out.mono ?_;rintro e w2 ⟨rfl,hk2,hd2⟩
     have A2:=hid (AG.out w1 w2 A1.out.1.1 hk2 hd2)
     clear hk2 hd2)
 go_ret
 exact⟨by simp[errV],A2.out.1,A2.out.2⟩
theorem ZgE {w:World} {F:Nat→Prop} {bx:Nat} {s s':List Nd} {rs:List Sp} {f:Mvf} (hg:GG w) (hP:Zv w F bx ⟨s,rs⟩) (hsm:Small rs) (h6:rs.length≤6) (A B C:Int) (t:ByteArray)
 (hT:∀ (F':Nat→Prop) (bf:Nat),PFor w F' bf s→Calls Tryz.prog 68 #[ptr bf,.int .i64 A,.int .i64 B,.int .i64 C,.string t] w (TMv f F' w bf s')) :
 Calls Tryz.prog 34 #[ptr bx,.int .i64 A,.int .i64 B,.int .i64 C,.string t] w (ZY F w bx ⟨s',rs.map (mvSp f)⟩ (errV 0 0)):=by
 obtain⟨bf,bl,sv,hD⟩:=hP
 have C:=hid (hT _ _ hD.nodes)
 have c0:w.cell? ⟨bx,0,none⟩=some (ptr bf):=Za hD.doc 0
 have BG:=hid (fun w1 m=>JD (w1:=w1) (m:=m) (s':=s') hg hD)
 have AG:=hid (fun w1 w2=>Zae (w1:=w1) (w2:=w2) (s':=s') (rs':=rs.map (mvSp f)) hD)
 have HSM:=hid hsm
 clear hD hT hg hsm
 go_enter Tryz.func34,Tryz.ntmps34
 go_wp2_with first
  | (go_at_call 68;refine C.out.mono ?_;rintro e w1 ⟨mv,m,rfl,hk,h1,h2,hf,hm⟩
     have A1:=hid (BG.out w1 m hk h1 hf)
     have E1:=hid (ZaH A1.out.1.2 A1.out.2 hm HSM.out h6)
     clear hk h1 h2 hf hm)
  | (go_at_call 64;refine E1.out.mono ?_;rintro e w2 ⟨rfl,hk2,hd2⟩
     have A2:=hid (AG.out w1 w2 A1.out.1.1 hk2 hd2)
     clear hk2 hd2)
 go_ret
 exact⟨by simp[errV],A2.out.1,A2.out.2⟩
theorem ZdM {w:World} {F:Nat→Prop} {bx:Nat} {s s':List Nd} {rs:List Sp} {f:Mvf} (hg:GG w) (hP:Zv w F bx ⟨s,rs⟩) (hsm:Small rs) (h6:rs.length≤6) {n:Int} (A B:Int)
 (hT:∀ (F':Nat→Prop) (bf:Nat),PFor w F' bf s→Calls Tryz.prog 63 #[ptr bf,.int .i64 A,.int .i64 B] w (TSv f F' w bf s' n)) :
 Calls Tryz.prog 30 #[ptr bx,.int .i64 A,.int .i64 B] w (ZY F w bx ⟨s',rs.map (mvSp f)⟩ (.tuple #[.int .i64 n,errV 0 0])):=by
 obtain⟨bf,bl,sv,hD⟩:=hP
 have C:=hid (hT _ _ hD.nodes)
 have c0:w.cell? ⟨bx,0,none⟩=some (ptr bf):=Za hD.doc 0
 have BG:=hid (fun w1 m=>JD (w1:=w1) (m:=m) (s':=s') hg hD)
 have AG:=hid (fun w1 w2=>Zae (w1:=w1) (w2:=w2) (s':=s') (rs':=rs.map (mvSp f)) hD)
 have HSM:=hid hsm
 clear hD hT hg hsm
 go_enter Tryz.func30,Tryz.ntmps30
 go_wp2_with first
  | (go_at_call 63;refine C.out.mono ?_;rintro e w1 ⟨mv,m,rfl,hk,h1,h2,hf,hm⟩
     have A1:=hid (BG.out w1 m hk h1 hf)
     have E1:=hid (ZaH A1.out.1.2 A1.out.2 hm HSM.out h6)
     clear hk h1 h2 hf hm)
  | (go_at_call 64;refine E1.out.mono ?_;rintro e w2 ⟨rfl,hk2,hd2⟩
     have A2:=hid (AG.out w1 w2 A1.out.1.1 hk2 hd2)
     clear hk2 hd2)
 go_ret2
 exact⟨by simp[errV],A2.out.1,A2.out.2⟩
end
section
open Go.RowKit
structure Yq (V:List Nd→Sp→Prop):Prop where
 place:∀ {s:List Nd} {z:Sp},V s z→SpOk s z
 fresh:∀ {s:List Nd},WF s→V s ⟨0,0,0,0⟩
 push:∀ {s:List Nd} {z:Sp} (nd:Nd),WF s→WF (s++[nd])→nd.p = -1→V s z→V (s++[nd]) z
 insert:∀ {s:List Nd} {i j k:Nat} {x y:Nd} {z:Sp},WF s→YI s i j x y→Lim (fun c=>ZT s c (i:Int) (j:Int)) false→k≤x.ks.length→i≠j→V s z →
  V ((s.set i { x with ks:=x.ks.take k++j::x.ks.drop k }).set j { y with p:=i }) (mvSp (Ze i k 1) z)
 remove:∀ {s:List Nd} {i j m:Nat} {x y:Nd} {z:Sp} (l:List Nat),WF s→s[i]?=some x→x.p=(j:Int)→s[j]?=some y→y.ks[m]?=some i→i∉y.ks.take m→i≠j→(∀ a:Nat,a<s.length→(a∈l↔∃ q,climb s q a=(i:Int)))→V s z →
  V ((s.set j { y with ks:=y.ks.take m++y.ks.drop (m+1) }).set i { x with p:=-1 }) (mvSp (Zz l j m (Ze j m (-1))) z)
 replace:∀ {s:List Nd} {n o c:Nat} {x:Nd} {lf:List ByteArray} {z:Sp},WF s→s[n]?=some x→x.t=true→o+c≤x.cs.length→WF (s.set n { x with cs:=x.cs.take o++lf++x.cs.drop (o+c) })→V s z→V (s.set n { x with cs:=x.cs.take o++lf++x.cs.drop (o+c) }) (mvSp (Zl n o c lf.length) z)
 splitTop:∀ {s:List Nd} {n k:Nat} {x:Nd} {z:Sp},WF s→s[n]?=some x→x.t=true→k≤x.cs.length→x.p = -1→s.length<40→V s z →
  V ((s++[(⟨true,x.cs.drop k,[],-1⟩:Nd)]).set n { x with cs:=x.cs.take k }) (mvSp (Zl n k ((x.cs.length - k:Nat):Int) 0) z)
 splitIn:∀ {s:List Nd} {n k j m:Nat} {x y:Nd} {z:Sp},WF s→s[n]?=some x→x.t=true→k≤x.cs.length→x.p=(j:Int)→s[j]?=some y→y.ks[m]?=some n→n∉y.ks.take m→n≠j→s.length<40→WF ((((s++[(⟨true,x.cs.drop k,[],-1⟩:Nd)]).set n { x with cs:=x.cs.take k }).set j { y with ks:=y.ks.take (m+1)++s.length::y.ks.drop (m+1) }).set s.length { (⟨true,x.cs.drop k,[],-1⟩:Nd) with p:=j })→V s z →
  V ((((s++[(⟨true,x.cs.drop k,[],-1⟩:Nd)]).set n { x with cs:=x.cs.take k }).set j { y with ks:=y.ks.take (m+1)++s.length::y.ks.drop (m+1) }).set s.length { (⟨true,x.cs.drop k,[],-1⟩:Nd) with p:=j }) (mvSp (Zp n k s.length (Ze j m 1)) z)
 one:∀ {s:List Nd} {a b:Int},WF s→PlOk s a b→V s ⟨a,b,a,b⟩
 two:∀ {s:List Nd} {n k n2 k2 t:Nat} {l l2:List Nat},WF s→PlOk s n k→PlOk s n2 k2→Zm s n t→Way s t n l→Way s t n2 l2→lexC (l++[k]) (l2++[k2])≤0→V s ⟨n,k,n2,k2⟩
def Z7 (V:List Nd→Sp→Prop):PDT where
 lies:=Zv
 ok:=fun st=>WF st.n∧st.r.length≤6∧∀ z∈st.r,V st.n z
theorem mapV {V W:Sp→Prop} {f:Sp→Sp} {rs:List Sp} (h:∀ z∈rs,V z) (hf:∀ z,V z→W (f z)):∀ z∈rs.map f,W z:=by
 intro z hz
 obtain⟨y,hy,rfl⟩:=List.mem_map.1 hz
 exact hf y (h y hy)
theorem pdocV_ok (V:List Nd→Sp→Prop):PDOk (Z7 V) where
 keeps:=fun h hk hG=>Zv.keeps h hk hG
 wider:=fun h hG=>Zv.wider h hG
 narrow:=fun h=>Zv.narrow h
 root:=⟨wf_root,Nat.zero_le _,fun z hz=>by cases hz⟩
theorem RDoc.afterR {w w':World} {F:Nat→Prop} {bd:Nat} {s:List Nd} {rs:List Sp} (h:RDoc w F bd s rs) (hb:Below w.heap.size w w'):RDoc w' (grow F w) bd s rs:=by
 obtain⟨bn,cap,rn,rv,h⟩:=h
 exact⟨bn,cap,rn,rv,(h.below hb).wider (fun b e=>.inl e)⟩
theorem RDoc.unchangedR {w w':World} {F:Nat→Prop} {bd:Nat} {s:List Nd} {rs:List Sp} (h:RDoc w F bd s rs) (hb:Below w.heap.size w w') {v:Value} {e:Ending} (he:e=.returned v):RPost F w bd ⟨s,rs⟩ v e w':=⟨he,Zb.of_below hb,h.afterR hb⟩
theorem Ze3 {s s':List Nd}:∀ (k i:Nat),(∀ d∈allF s k i,ZD s' d=ZD s d)→allF s' k i=allF s k i:=by
 intro k
 induction k with
 | zero=>intro i _;rfl
 | succ k ih =>
   intro i h
   have h0:ZD s' i=ZD s i:=h i (by simp[allF])
   simp only[allF,h0]
   congr 1
   have:∀ l:List Nat,(∀ c∈l,c∈ZD s i)→l.flatMap (allF s' k)=l.flatMap (allF s k):=by
    intro l
    induction l with
    | nil=>intro _;rfl
    | cons c l ih2 =>
      intro hl
      rw[List.flatMap_cons,List.flatMap_cons,ih2 (fun d hd=>hl d (by simp[hd])),ih c (fun d hd=>h d (by
       simp only[allF,List.mem_cons,List.mem_flatMap]
       exact .inr ⟨c,hl c (by simp),hd⟩))]
   exact this _ (fun c hc=>hc)
section
variable {s:List Nd} {i j m:Nat} {x y:Nd} {h h2:Nat→Nat} {B B2:Nat}
theorem Zdc (wf:WF s) (u:Up s h B) (hx:s[i]?=some x) (hj:x.p=(j:Int)) (hy:s[j]?=some y) (hm:y.ks[m]?=some i) (hij:i≠j)
 (wf2:WF ((s.set j { y with ks:=y.ks.take m++y.ks.drop (m+1) }).set i { x with p:=-1 })) (u2:Up ((s.set j { y with ks:=y.ks.take m++y.ks.drop (m+1) }).set i { x with p:=-1 }) h2 B2) :
 ∃ K,h i<K∧allF ((s.set j { y with ks:=y.ks.take m++y.ks.drop (m+1) }).set i { x with p:=-1 }) (h2 i+1) i=allF s K i:=by
 have hjl:=(List.getElem?_eq_some_iff.1 hy).1
 have hil:=(List.getElem?_eq_some_iff.1 hx).1
 refine⟨max (h2 i+1) (h i+1),by omega,?_⟩
 rw[Zcu wf2 u2 (h2 i+1) (max (h2 i+1) (h i+1)) i (by omega) (by omega)]
 refine Ze3 _ _ (fun d hd=>?_)
 have hdj:d≠j:=fun e=>by
  subst e
  exact JC wf u (show i∈ZD s d by rw[Yp hy];exact List.mem_of_getElem? hm) hd
 unfold ZD
 by_cases hdi:d=i
 · subst hdi
   rw[List.getElem?_set_self (by simpa using hil),hx]
 · rw[List.getElem?_set_ne (fun e=>hdi e.symm),List.getElem?_set_ne (fun e=>hdj e.symm)]
theorem Zdd (wf:WF s) (u:Up s h B) (hx:s[i]?=some x) (hj:x.p=(j:Int)) (hy:s[j]?=some y) (hm:y.ks[m]?=some i) (hij:i≠j)
 (wf2:WF ((s.set j { y with ks:=y.ks.take m++y.ks.drop (m+1) }).set i { x with p:=-1 })) (u2:Up ((s.set j { y with ks:=y.ks.take m++y.ks.drop (m+1) }).set i { x with p:=-1 }) h2 B2) :
 ∀ a:Nat,a<s.length→(a∈allF ((s.set j { y with ks:=y.ks.take m++y.ks.drop (m+1) }).set i { x with p:=-1 }) (h2 i+1) i↔∃ q,climb s q a=(i:Int)):=by
 obtain⟨K,hK,e⟩:=Zdc wf u hx hj hy hm hij wf2 u2
 intro a ha
 rw[e]
 exact⟨fun h=>XH wf K i a h,fun ⟨q,hq⟩=>Zct wf u K i hK q a ha hq⟩
theorem Zde (wf:WF s) (u:Up s h B) (hx:s[i]?=some x) (hj:x.p=(j:Int)) (hy:s[j]?=some y) (hm:y.ks[m]?=some i) (hij:i≠j)
 (wf2:WF ((s.set j { y with ks:=y.ks.take m++y.ks.drop (m+1) }).set i { x with p:=-1 })) (u2:Up ((s.set j { y with ks:=y.ks.take m++y.ks.drop (m+1) }).set i { x with p:=-1 }) h2 B2) :
 ∀ a:Nat,a<s.length→Lim (fun c=>ZT s c (a:Int) (i:Int)) ((allF ((s.set j { y with ks:=y.ks.take m++y.ks.drop (m+1) }).set i { x with p:=-1 }) (h2 i+1) i).contains a):=by
 obtain⟨K,hK,e⟩:=Zdc wf u hx hj hy hm hij wf2 u2
 intro a ha
 rw[e]
 by_cases hm:a∈allF s K i
 · rw[List.contains_iff_mem.2 hm]
   exact Zay wf ha hm
 · have:(allF s K i).contains a=false:=by
    rw[← Bool.not_eq_true]
    exact fun h=>hm (List.contains_iff_mem.1 h)
   rw[this]
   exact JV wf u ha hK hm
end
theorem Zh6 (n k t fr j m:Nat) (hfr:n≠fr) (hj:n≠j):mvSp (Zl n k (t:Int) 0) ∘ mvSp (Zp n k fr (Ze j m 1))=mvSp (Zp n k fr (Ze j m 1)):=by
 have key:∀ a b:Int,Zl n k (t:Int) 0 (Zp n k fr (Ze j m 1) a b).1 (Zp n k fr (Ze j m 1) a b).2=Zp n k fr (Ze j m 1) a b:=by
  intro a b
  unfold Zp
  by_cases h1:a=(n:Int)∧(k:Int)<b
  · rw[if_pos h1]
    unfold Zl Ze
    rw[if_neg (by simp only;omega),if_neg (by simp only;omega)]
  · rw[if_neg h1]
    unfold Ze
    by_cases h2:a=(j:Int)∧(m:Int)<b
    · rw[if_pos h2]
      unfold Zl Ze
      rw[if_neg (by simp only;omega),if_neg (by simp only;omega)]
    · rw[if_neg h2]
      unfold Zl Ze
      rw[if_neg (by simp only;omega),if_neg (by simp only;omega)]
 funext z
 simp only[Function.comp,mvSp,key]
theorem Ze9 {s:List Nd} (wf:WF s) {rs:List Sp} (h:∀ z∈rs,SpOk s z) (n k fr j m:Nat):Small (rs.map (mvSp (Zp n k fr (Ze j m 1)))):=by
 have key:∀ a b:Int,0≤b∧b≤40→0≤(Zp n k fr (Ze j m 1) a b).2∧(Zp n k fr (Ze j m 1) a b).2≤100:=by
  intro a b hb
  unfold Zp
  split
  · simp only;omega
  · unfold Ze
    split <;> simp only <;> omega
 intro z hz
 obtain⟨y,hy,rfl⟩:=List.mem_map.1 hz
 have h1:=key y.a y.b ((h y hy).1.small wf)
 have h2:=key y.c y.d ((h y hy).2.small wf)
 exact⟨h1.1,h1.2,h2.1,h2.2⟩
end
end Go.Proofs.YtabogkonklplcaaGreatDoor
