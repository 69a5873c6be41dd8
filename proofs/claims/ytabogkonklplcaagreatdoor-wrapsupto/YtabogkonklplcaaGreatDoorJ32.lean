import Derived.Test.YtabogkonklplcaaGreatDoorJ18
namespace Go.Proofs.YtabogkonklplcaaGreatDoor
set_option linter.unusedSimpArgs false
set_option linter.unusedVariables false
set_option maxRecDepth 20000
set_option maxHeartbeats 8000000
section
open Go.RowKit
section
variable {PD:PDT} {G:World→Prop} {FP FR:Nat→Prop} {w:World} {yb bx bd:Nat} {psv:Value} {s:St}
theorem Ziw (hPD:PDOk PD) (hGB:∀ w w',G w→Below w.heap.size w w'→G w') (hA:ZU PD FP FR w yb bx bd psv s) (hg:G w)
 (D A B C:Int) (S:ByteArray) (p0 p1 q0 q1:Int) (h:Ans PD G s 34 78 [.int .i64 A,.int .i64 B,.int .i64 C,.string S] (fun v=>v) (fun v=>v)) :
 Calls Tryz.prog 43 #[ptr yb,.agg #[ptr bx,ptr bd],opV 7 D A B C S p0 p1 q0 q1] w (Z8 PD FP FR w yb bx bd psv):=by
 obtain⟨a,y,s',hwf,hp,hr⟩:=h
 have hB:=Ys w bx bd 7 D A B C S p0 p1 q0 q1
 have hbp:=Yu w bx bd 7 D A B C S p0 p1 q0 q1
 have hbo:=Yt w bx bd 7 D A B C S p0 p1 q0 q1
 have CP:=hid (hp (Z9 w bx bd 7 D A B C S p0 p1 q0 q1) FP bx (hGB _ _ hg hB) (hPD.keeps hA.pd (Zb.of_below (F:=fun _=>False) hB) (fun _ _ e=>e)))
 have HB:=hid hB
 have HBP:=hid hbp
 have HBO:=hid hbo
 have HR:=hid hr
 have HA:=hid hA
 have HPD:=hid hPD
 have HWF:=hid hwf
 clear hp hr hB hbp hbo hA hPD hwf hg hGB
 go_enter Tryz.func43,Tryz.ntmps43
 go_wp2_with (first
  | (go_at_call 34
     refine CP.out.mono ?_
     clear CP
     rintro e w1 ⟨rfl,k1,d1⟩
     have hp1:=HA.out.old k1 (Nat.le_refl _) HBP.out
     have ho1:=HA.out.old k1 (Nat.le_succ _) HBO.out
     have c10:w1.cell? ⟨w.heap.size,0,none⟩=some (ptr bx):=Za hp1 0
     have c11:w1.cell? ⟨w.heap.size,1,none⟩=some (ptr bd):=Za hp1 1
     have c22:w1.cell? ⟨w.heap.size+1,2,none⟩=some (.int .i64 A):=Za ho1 2
     have c23:w1.cell? ⟨w.heap.size+1,3,none⟩=some (.int .i64 B):=Za ho1 3
     have c24:w1.cell? ⟨w.heap.size+1,4,none⟩=some (.int .i64 C):=Za ho1 4
     have c25:w1.cell? ⟨w.heap.size+1,5,none⟩=some (.string S):=Za ho1 5
     have CR:=hid (HR.out w1 FR bd (HA.out.ref HB.out k1))
     have K1:=hid k1
     have D1:=hid d1
     clear k1 d1 hp1 ho1)
  | (go_at_call 78
     refine CR.out.mono ?_
     clear CR
     rintro e w2 ⟨rfl,k2,r2⟩
     have PL:=hid (HA.out.play2 HB.out K1.out k2)
     have K2:=hid k2
     have R2:=hid r2
     clear k2 r2)
  | (go_at_call 20
     obtain⟨l0,a0,y0,-,hq⟩:=PL.out
     refine(Yx yb psv l0 a0 y0 a y w2 hq).mono ?_
     rintro e w4 ⟨rfl,k4,hq4⟩
     have K4:=hid k4
     have Q4:=hid hq4
     clear k4 hq4 hq))
 go_ret
 exact Yy HPD.out HA.out HWF.out HB.out K1.out D1.out K2.out R2.out K4.out ⟨_,_,_,rfl,Q4.out⟩
theorem Zix (hPD:PDOk PD) (hGB:∀ w w',G w→Below w.heap.size w w'→G w') (hA:ZU PD FP FR w yb bx bd psv s) (hg:G w)
 (D A B C:Int) (S:ByteArray) (p0 p1 q0 q1:Int) (h:∃ n:Int,Ans PD G s 30 79 [.int .i64 A,.int .i64 B] (fun v=>.tuple #[.int .i64 n,v]) (fun v=>.tuple #[.int .i64 n,v])) :
 Calls Tryz.prog 43 #[ptr yb,.agg #[ptr bx,ptr bd],opV 8 D A B C S p0 p1 q0 q1] w (Z8 PD FP FR w yb bx bd psv):=by
 obtain⟨n,a,y,s',hwf,hp,hr⟩:=h
 have hB:=Ys w bx bd 8 D A B C S p0 p1 q0 q1
 have hbp:=Yu w bx bd 8 D A B C S p0 p1 q0 q1
 have hbo:=Yt w bx bd 8 D A B C S p0 p1 q0 q1
 have CP:=hid (hp (Z9 w bx bd 8 D A B C S p0 p1 q0 q1) FP bx (hGB _ _ hg hB) (hPD.keeps hA.pd (Zb.of_below (F:=fun _=>False) hB) (fun _ _ e=>e)))
 have HB:=hid hB
 have HBP:=hid hbp
 have HBO:=hid hbo
 have HR:=hid hr
 have HA:=hid hA
 have HPD:=hid hPD
 have HWF:=hid hwf
 clear hp hr hB hbp hbo hA hPD hwf hg hGB
 go_enter Tryz.func43,Tryz.ntmps43
 go_wp2_with (first
  | (go_at_call 30
     refine CP.out.mono ?_
     clear CP
     rintro e w1 ⟨rfl,k1,d1⟩
     have hp1:=HA.out.old k1 (Nat.le_refl _) HBP.out
     have ho1:=HA.out.old k1 (Nat.le_succ _) HBO.out
     have c10:w1.cell? ⟨w.heap.size,0,none⟩=some (ptr bx):=Za hp1 0
     have c11:w1.cell? ⟨w.heap.size,1,none⟩=some (ptr bd):=Za hp1 1
     have c22:w1.cell? ⟨w.heap.size+1,2,none⟩=some (.int .i64 A):=Za ho1 2
     have c23:w1.cell? ⟨w.heap.size+1,3,none⟩=some (.int .i64 B):=Za ho1 3
     have c24:w1.cell? ⟨w.heap.size+1,4,none⟩=some (.int .i64 C):=Za ho1 4
     have c25:w1.cell? ⟨w.heap.size+1,5,none⟩=some (.string S):=Za ho1 5
     have CR:=hid (HR.out w1 FR bd (HA.out.ref HB.out k1))
     have K1:=hid k1
     have D1:=hid d1
     clear k1 d1 hp1 ho1)
  | (go_at_call 79
     refine CR.out.mono ?_
     clear CR
     rintro e w2 ⟨rfl,k2,r2⟩
     have PL:=hid (HA.out.play2 HB.out K1.out k2)
     have K2:=hid k2
     have R2:=hid r2
     clear k2 r2)
  | (go_at_call 20
     obtain⟨l0,a0,y0,-,hq⟩:=PL.out
     refine(Yx yb psv l0 a0 y0 a y (w2.alloc (.cells #[.int .i64 a,.int .i64 y] 32)) ((Below.heap_alloc _ _ _ (Zc hq)).trans hq)).mono ?_
     rintro e w4 ⟨rfl,k4,hq4⟩
     have K4:=hid k4
     have Q4:=hid hq4
     clear k4 hq4 hq))
 go_ret
 exact Yy HPD.out HA.out HWF.out HB.out K1.out D1.out K2.out R2.out ((((Zb.refl (fun b=>b=yb) w2).alloc _)).trans (K4.out.mono (fun k _ e=>.inl e))) ⟨_,_,_,rfl,Q4.out⟩
theorem Ziv (hPD:PDOk PD) (hGB:∀ w w',G w→Below w.heap.size w w'→G w') (hA:ZU PD FP FR w yb bx bd psv s) (hg:G w)
 (D A B C:Int) (S:ByteArray) (p0 p1 q0 q1:Int) (h:∃ n:Int,Ans PD G s 26 80 [.agg #[.int .i64 p0,.int .i64 p1],.agg #[.int .i64 q0,.int .i64 q1]] (fun v=>.tuple #[.int .i64 n,v]) (fun v=>.tuple #[.int .i64 n,v])) :
 Calls Tryz.prog 43 #[ptr yb,.agg #[ptr bx,ptr bd],opV 9 D A B C S p0 p1 q0 q1] w (Z8 PD FP FR w yb bx bd psv):=by
 obtain⟨n,a,y,s',hwf,hp,hr⟩:=h
 have hB:=Ys w bx bd 9 D A B C S p0 p1 q0 q1
 have hbp:=Yu w bx bd 9 D A B C S p0 p1 q0 q1
 have hbo:=Yt w bx bd 9 D A B C S p0 p1 q0 q1
 have CP:=hid (hp (Z9 w bx bd 9 D A B C S p0 p1 q0 q1) FP bx (hGB _ _ hg hB) (hPD.keeps hA.pd (Zb.of_below (F:=fun _=>False) hB) (fun _ _ e=>e)))
 have HB:=hid hB
 have HBP:=hid hbp
 have HBO:=hid hbo
 have HR:=hid hr
 have HA:=hid hA
 have HPD:=hid hPD
 have HWF:=hid hwf
 clear hp hr hB hbp hbo hA hPD hwf hg hGB
 go_enter Tryz.func43,Tryz.ntmps43
 go_wp2_with (first
  | (go_at_call 26
     refine CP.out.mono ?_
     clear CP
     rintro e w1 ⟨rfl,k1,d1⟩
     have hp1:=HA.out.old k1 (Nat.le_refl _) HBP.out
     have ho1:=HA.out.old k1 (Nat.le_succ _) HBO.out
     have c10:w1.cell? ⟨w.heap.size,0,none⟩=some (ptr bx):=Za hp1 0
     have c11:w1.cell? ⟨w.heap.size,1,none⟩=some (ptr bd):=Za hp1 1
     have c22:w1.cell? ⟨w.heap.size+1,2,none⟩=some (.int .i64 A):=Za ho1 2
     have c23:w1.cell? ⟨w.heap.size+1,3,none⟩=some (.int .i64 B):=Za ho1 3
     have c24:w1.cell? ⟨w.heap.size+1,4,none⟩=some (.int .i64 C):=Za ho1 4
     have c25:w1.cell? ⟨w.heap.size+1,5,none⟩=some (.string S):=Za ho1 5
     have c26:w1.cell? ⟨w.heap.size+1,6,none⟩=some (.int .i64 p0):=Za ho1 6
     have c27:w1.cell? ⟨w.heap.size+1,7,none⟩=some (.int .i64 p1):=Za ho1 7
     have c28:w1.cell? ⟨w.heap.size+1,8,none⟩=some (.int .i64 q0):=Za ho1 8
     have c29:w1.cell? ⟨w.heap.size+1,9,none⟩=some (.int .i64 q1):=Za ho1 9
     have CR:=hid (HR.out w1 FR bd (HA.out.ref HB.out k1))
     have K1:=hid k1
     have D1:=hid d1
     clear k1 d1 hp1 ho1)
  | (go_at_call 80
     refine CR.out.mono ?_
     clear CR
     rintro e w2 ⟨rfl,k2,r2⟩
     have PL:=hid (HA.out.play2 HB.out K1.out k2)
     have K2:=hid k2
     have R2:=hid r2
     clear k2 r2)
  | (go_at_call 20
     obtain⟨l0,a0,y0,-,hq⟩:=PL.out
     refine(Yx yb psv l0 a0 y0 a y (w2.alloc (.cells #[.int .i64 a,.int .i64 y] 32)) ((Below.heap_alloc _ _ _ (Zc hq)).trans hq)).mono ?_
     rintro e w4 ⟨rfl,k4,hq4⟩
     have K4:=hid k4
     have Q4:=hid hq4
     clear k4 hq4 hq))
 go_ret
 exact Yy HPD.out HA.out HWF.out HB.out K1.out D1.out K2.out R2.out ((((Zb.refl (fun b=>b=yb) w2).alloc _)).trans (K4.out.mono (fun k _ e=>.inl e))) ⟨_,_,_,rfl,Q4.out⟩
end
section
variable {PD:PDT} {Q:Nat→Prop} {w0 w:World} {yb:Nat} {docs:List DocR}
theorem Zh9 (hPD:PDOk PD) (h:InvE PD Q w0 w yb docs) (kind D A B C:Int) (S:ByteArray) (p0 p1 q0 q1:Int) (hk2:7≤kind) (hk6:kind≤9) (hd0:0 < docs.length) (hdl:docs.length < lots)
 (hD1:-9223372036854775808≤D) (hD2:D≤9223372036854775807)
 (hN:∀ (W:World) (own:Nat→Nat) (psv:Value) (i:Nat) (d:DocR),docs[i]?=some d→Inv PD Q w0 W yb docs own psv →
   Calls Tryz.prog 43 #[ptr yb,.agg #[ptr d.bx,ptr d.bd],opV kind D A B C S p0 p1 q0 q1] W (Z8 PD (fun b=>own b=2*i+2) (fun b=>own b=2*i+3) W yb d.bx d.bd psv)) :
 Calls Tryz.prog 15 #[ptr yb,opV kind D A B C S p0 p1 q0 q1] w (YJ PD Q w0 yb docs.length docs.length):=by
 have hI:=h
 obtain⟨own,psv,h⟩:=h
 rcases ZB h.row with ⟨_,hz⟩|⟨g,c,hv⟩
 · omega
 have hrow:=h.row
 rw[hv] at hrow
 obtain⟨l0,a0,y0,-,hq⟩:=h.play
 have hl:=Zc hq
 have c0:w.cell? ⟨yb,0,none⟩=some (.slice (some ⟨g,0,none⟩) docs.length c):=by rw[← hv];exact Za hq 0
 have hi:=ZbW D hd0
 obtain⟨i,hie⟩:∃ i,Xy D docs.length=i:=⟨_,rfl⟩
 rw[hie] at hi
 have hd:docs[i]?=some docs[i]:=List.getElem?_eq_getElem hi
 generalize docs[i]=d at hd
 have hpg:=ZbU docs i d hd
 have cx:w.cell? ⟨g,i*2,none⟩=some (ptr d.bx):=by rw[hrow.cellAt (i*2) (by omega)];exact hpg.1
 have cd:w.cell? ⟨g,i*2+1,none⟩=some (ptr d.bd):=by rw[hrow.cellAt (i*2+1) (by omega)];exact hpg.2
 have hgl:g<w.heap.size:=(hrow.lt g rfl).2
 have hk1':(kind == 1)=false:=by simp;omega
 have hk2':decide (kind<2)=false:=decide_eq_false (by omega)
 have hk3':decide (15<kind)=false:=decide_eq_false (by omega)
 have h0':((docs.length:Int) == 0)=false:=by simp;intro e;rw[e] at hd0;simp at hd0
 have hk6':decide (kind≤6)=false:=decide_eq_false (by omega)
 have hk9':decide (kind≤9)=true:=decide_eq_true hk6
 have PICK:=hid (ZbX D docs.length hd0 hdl hD1 hD2)
 have hil:i<docs.length:=hi
 have HIE:=hid hie
 have HDL:=hid hdl
 have HI:=hid hI
 have HPD:=hid hPD
 have HN:=hid hN
 have HD:=hid hd
 clear hq h hI hPD hv hrow hN hd hpg hi hie hdl hD1 hD2
 go_enter Tryz.func15,Tryz.ntmps15
 go_wp2
 go_region_held3 (fun w'=>w'.cell? ⟨yb,0,none⟩=some (.slice (some ⟨g,0,none⟩) docs.length c)∧w'.cell? ⟨w.heap.size,1,none⟩=some (.int .i64 D)∧w'.cell? ⟨g,i*2,none⟩=some (ptr d.bx)∧w'.cell? ⟨g,i*2+1,none⟩=some (ptr d.bd)) (go_keep) (first
  | (go_at_call 21;refine(PICK.out _).mono ?_;rintro e w' ⟨rfl,rfl⟩;rw[HIE.out]))
 all_goals
  have hb:Below w.heap.size w (((w.alloc (.cells (Xb kind D A B C S p0 p1 q0 q1) 39)).alloc (.cells #[ptr d.bx,ptr d.bd] 44)).drew):=(((Below.refl _ w).alloc (Nat.le_refl _) _).alloc (by simp) _).drew
  obtain⟨own2,psv2,hI2⟩:=HI.out.below HPD.out hb
  have CN:=hid (HN.out (((w.alloc (.cells (Xb kind D A B C S p0 p1 q0 q1) 39)).alloc (.cells #[ptr d.bx,ptr d.bd] 44)).drew) own2 psv2 i d HD.out hI2)
  have HI2:=hid hI2
  clear hb hI2
  go_wp2_with (go_at_call 43;refine CN.out.mono ?_;intro e w3 hp;have he:=hp.1;subst he;have HP:=hid hp;clear hp)
  go_ret
  exact HI2.out.stepped HPD.out HD.out HP.out
end
structure Answers2 (PD:PDT) (G:World→Prop):Prop extends Answers PD G where
 replace:∀ s,PD.ok s→∀ (A B C:Int) (S:ByteArray),S.size<lots→Ans PD G s 34 78 [.int .i64 A,.int .i64 B,.int .i64 C,.string S] (fun v=>v) (fun v=>v)
 split:∀ s,PD.ok s→∀ A B:Int,∃ n:Int,Ans PD G s 30 79 [.int .i64 A,.int .i64 B] (fun v=>.tuple #[.int .i64 n,v]) (fun v=>.tuple #[.int .i64 n,v])
def Zbe (PD:PDT) (G:World→Prop):Prop:=∀ s,PD.ok s→∀ p0 p1 q0 q1:Int,∃ n:Int,Ans PD G s 26 80 [.agg #[.int .i64 p0,.int .i64 p1],.agg #[.int .i64 q0,.int .i64 q1]] (fun v=>.tuple #[.int .i64 n,v]) (fun v=>.tuple #[.int .i64 n,v])
theorem Zig {PD:PDT} {G:World→Prop} (hA:Answers2 PD G) {Q:Nat→Prop} {w0:World} {yb:Nat} (hG:∀ W,Zb Q w0 W→G W) (o:OpR) (ho:OpOk o) (hk:7≤o.kind∧o.kind≤9) (hC:o.kind=9→Zbe PD G) (W:World) (docs:List DocR) (hI:InvE PD Q w0 W yb docs) (hdl:docs.length < lots) :
 Calls Tryz.prog 15 #[ptr yb,o.val] W (YJ PD Q w0 yb docs.length docs.length):=by
 obtain⟨kind,D,A,B,C,S,p0,p1,q0,q1⟩:=o
 obtain⟨d1,d2,hs⟩:=ho
 simp only at d1 d2 hs hk hC
 by_cases h0:docs.length=0
 · exact J7 hA.pd hI kind D A B C S p0 p1 q0 q1 (by omega) (.inl h0)
 refine Zh9 hA.pd hI kind D A B C S p0 p1 q0 q1 hk.1 hk.2 (by omega) hdl d1 d2 (fun W1 own psv i d hd hI1=>?_)
 have hp:=hI1.pair hd
 have hwf:=(hI1.doc i d hd).2.2
 have hg:=hG _ hI1.fr
 have hc:kind=7∨kind=8∨kind=9:=by omega
 rcases hc with rfl|rfl|rfl
 · exact Ziw hA.pd hA.gb hp hg D A B C S p0 p1 q0 q1 (hA.replace d.s hwf A B C S hs)
 · exact Zix hA.pd hA.gb hp hg D A B C S p0 p1 q0 q1 (hA.split d.s hwf A B)
 · exact Ziv hA.pd hA.gb hp hg D A B C S p0 p1 q0 q1 (hC rfl d.s hwf p0 p1 q0 q1)
theorem Zid {PD:PDT} {G:World→Prop} (hA:Answers2 PD G) (hC:Zbe PD G) {Q:Nat→Prop} {w0:World} {yb:Nat} (hG:∀ W,Zb Q w0 W→G W):JA PD Q w0 yb (fun k=>1≤k∧k≤9):=by
 intro o ho hk W docs hI hdl
 by_cases h6:o.kind≤6
 · exact steps_of hA.toAnswers hG o ho ⟨hk.1,h6⟩ W docs hI hdl
 · refine(Zig hA hG o ho ⟨by omega,hk.2⟩ (fun _=>hC) W docs hI hdl).mono ?_
   rintro e w' ⟨he,docs',h,hm,hl⟩
   exact⟨he,docs',h,hm,by omega⟩
end
section
open Go.RowKit
section
variable {PD:PDT} {G:World→Prop} {FP FR:Nat→Prop} {w:World} {yb bx bd:Nat} {psv:Value} {s:St}
theorem Zhb (hPD:PDOk PD) (hGB:∀ w w',G w→Below w.heap.size w w'→G w') (hA:ZU PD FP FR w yb bx bd psv s) (hg:G w)
 (D A B C:Int) (S:ByteArray) (p0 p1 q0 q1:Int) (h:∃ n:Int,Ans PD G s 56 81 [] (fun v=>.tuple #[.int .i64 n,v]) (fun v=>.tuple #[.int .i64 n,v])) :
 Calls Tryz.prog 44 #[ptr yb,.agg #[ptr bx,ptr bd],opV 10 D A B C S p0 p1 q0 q1] w (Z8 PD FP FR w yb bx bd psv):=by
 obtain⟨n,a,y,s',hwf,hp,hr⟩:=h
 have hB:=Ys w bx bd 10 D A B C S p0 p1 q0 q1
 have hbp:=Yu w bx bd 10 D A B C S p0 p1 q0 q1
 have hbo:=Yt w bx bd 10 D A B C S p0 p1 q0 q1
 have CP:=hid (hp (Z9 w bx bd 10 D A B C S p0 p1 q0 q1) FP bx (hGB _ _ hg hB) (hPD.keeps hA.pd (Zb.of_below (F:=fun _=>False) hB) (fun _ _ e=>e)))
 have HB:=hid hB
 have HBP:=hid hbp
 have HBO:=hid hbo
 have HR:=hid hr
 have HA:=hid hA
 have HPD:=hid hPD
 have HWF:=hid hwf
 clear hp hr hB hbp hbo hA hPD hwf hg hGB
 go_enter Tryz.func44,Tryz.ntmps44
 go_wp2_with (first
  | (go_at_call 56
     refine CP.out.mono ?_
     clear CP
     rintro e w1 ⟨rfl,k1,d1⟩
     have hp1:=HA.out.old k1 (Nat.le_refl _) HBP.out
     have ho1:=HA.out.old k1 (Nat.le_succ _) HBO.out
     have c10:w1.cell? ⟨w.heap.size,0,none⟩=some (ptr bx):=Za hp1 0
     have c11:w1.cell? ⟨w.heap.size,1,none⟩=some (ptr bd):=Za hp1 1
     have c22:w1.cell? ⟨w.heap.size+1,2,none⟩=some (.int .i64 A):=Za ho1 2
     have c23:w1.cell? ⟨w.heap.size+1,3,none⟩=some (.int .i64 B):=Za ho1 3
     have c24:w1.cell? ⟨w.heap.size+1,4,none⟩=some (.int .i64 C):=Za ho1 4
     have c25:w1.cell? ⟨w.heap.size+1,5,none⟩=some (.string S):=Za ho1 5
     have CR:=hid (HR.out w1 FR bd (HA.out.ref HB.out k1))
     have K1:=hid k1
     have D1:=hid d1
     clear k1 d1 hp1 ho1)
  | (go_at_call 81
     refine CR.out.mono ?_
     clear CR
     rintro e w2 ⟨rfl,k2,r2⟩
     have PL:=hid (HA.out.play2 HB.out K1.out k2)
     have K2:=hid k2
     have R2:=hid r2
     clear k2 r2)
  | (go_at_call 20
     obtain⟨l0,a0,y0,-,hq⟩:=PL.out
     refine(Yx yb psv l0 a0 y0 a y (w2.alloc (.cells #[.int .i64 a,.int .i64 y] 32)) ((Below.heap_alloc _ _ _ (Zc hq)).trans hq)).mono ?_
     rintro e w4 ⟨rfl,k4,hq4⟩
     have K4:=hid k4
     have Q4:=hid hq4
     clear k4 hq4 hq))
 go_ret
 exact Yy HPD.out HA.out HWF.out HB.out K1.out D1.out K2.out R2.out ((((Zb.refl (fun b=>b=yb) w2).alloc _)).trans (K4.out.mono (fun k _ e=>.inl e))) ⟨_,_,_,rfl,Q4.out⟩
theorem Zhe (hPD:PDOk PD) (hGB:∀ w w',G w→Below w.heap.size w w'→G w') (hA:ZU PD FP FR w yb bx bd psv s) (hg:G w)
 (D A B C:Int) (S:ByteArray) (p0 p1 q0 q1:Int) (h:Ans PD G s 31 82 [.int .i64 A,.agg #[.int .i64 p0,.int .i64 p1]] (fun v=>v) (fun v=>v)) :
 Calls Tryz.prog 44 #[ptr yb,.agg #[ptr bx,ptr bd],opV 11 D A B C S p0 p1 q0 q1] w (Z8 PD FP FR w yb bx bd psv):=by
 obtain⟨a,y,s',hwf,hp,hr⟩:=h
 have hB:=Ys w bx bd 11 D A B C S p0 p1 q0 q1
 have hbp:=Yu w bx bd 11 D A B C S p0 p1 q0 q1
 have hbo:=Yt w bx bd 11 D A B C S p0 p1 q0 q1
 have CP:=hid (hp (Z9 w bx bd 11 D A B C S p0 p1 q0 q1) FP bx (hGB _ _ hg hB) (hPD.keeps hA.pd (Zb.of_below (F:=fun _=>False) hB) (fun _ _ e=>e)))
 have HB:=hid hB
 have HBP:=hid hbp
 have HBO:=hid hbo
 have HR:=hid hr
 have HA:=hid hA
 have HPD:=hid hPD
 have HWF:=hid hwf
 clear hp hr hB hbp hbo hA hPD hwf hg hGB
 go_enter Tryz.func44,Tryz.ntmps44
 go_wp2_with (first
  | (go_at_call 31
     refine CP.out.mono ?_
     clear CP
     rintro e w1 ⟨rfl,k1,d1⟩
     have hp1:=HA.out.old k1 (Nat.le_refl _) HBP.out
     have ho1:=HA.out.old k1 (Nat.le_succ _) HBO.out
     have c10:w1.cell? ⟨w.heap.size,0,none⟩=some (ptr bx):=Za hp1 0
     have c11:w1.cell? ⟨w.heap.size,1,none⟩=some (ptr bd):=Za hp1 1
     have c22:w1.cell? ⟨w.heap.size+1,2,none⟩=some (.int .i64 A):=Za ho1 2
     have c23:w1.cell? ⟨w.heap.size+1,3,none⟩=some (.int .i64 B):=Za ho1 3
     have c24:w1.cell? ⟨w.heap.size+1,4,none⟩=some (.int .i64 C):=Za ho1 4
     have c25:w1.cell? ⟨w.heap.size+1,5,none⟩=some (.string S):=Za ho1 5
     have c26:w1.cell? ⟨w.heap.size+1,6,none⟩=some (.int .i64 p0):=Za ho1 6
     have c27:w1.cell? ⟨w.heap.size+1,7,none⟩=some (.int .i64 p1):=Za ho1 7
     have CR:=hid (HR.out w1 FR bd (HA.out.ref HB.out k1))
     have K1:=hid k1
     have D1:=hid d1
     clear k1 d1 hp1 ho1)
  | (go_at_call 82
     refine CR.out.mono ?_
     clear CR
     rintro e w2 ⟨rfl,k2,r2⟩
     have PL:=hid (HA.out.play2 HB.out K1.out k2)
     have K2:=hid k2
     have R2:=hid r2
     clear k2 r2)
  | (go_at_call 20
     obtain⟨l0,a0,y0,-,hq⟩:=PL.out
     refine(Yx yb psv l0 a0 y0 a y w2 hq).mono ?_
     rintro e w4 ⟨rfl,k4,hq4⟩
     have K4:=hid k4
     have Q4:=hid hq4
     clear k4 hq4 hq))
 go_ret
 exact Yy HPD.out HA.out HWF.out HB.out K1.out D1.out K2.out R2.out K4.out ⟨_,_,_,rfl,Q4.out⟩
theorem Zha (hPD:PDOk PD) (hGB:∀ w w',G w→Below w.heap.size w w'→G w') (hA:ZU PD FP FR w yb bx bd psv s) (hg:G w)
 (D A B C:Int) (S:ByteArray) (p0 p1 q0 q1:Int) (h:Ans PD G s 32 83 [.int .i64 A,.agg #[.int .i64 p0,.int .i64 p1]] (fun v=>v) (fun v=>v)) :
 Calls Tryz.prog 44 #[ptr yb,.agg #[ptr bx,ptr bd],opV 12 D A B C S p0 p1 q0 q1] w (Z8 PD FP FR w yb bx bd psv):=by
 obtain⟨a,y,s',hwf,hp,hr⟩:=h
 have hB:=Ys w bx bd 12 D A B C S p0 p1 q0 q1
 have hbp:=Yu w bx bd 12 D A B C S p0 p1 q0 q1
 have hbo:=Yt w bx bd 12 D A B C S p0 p1 q0 q1
 have CP:=hid (hp (Z9 w bx bd 12 D A B C S p0 p1 q0 q1) FP bx (hGB _ _ hg hB) (hPD.keeps hA.pd (Zb.of_below (F:=fun _=>False) hB) (fun _ _ e=>e)))
 have HB:=hid hB
 have HBP:=hid hbp
 have HBO:=hid hbo
 have HR:=hid hr
 have HA:=hid hA
 have HPD:=hid hPD
 have HWF:=hid hwf
 clear hp hr hB hbp hbo hA hPD hwf hg hGB
 go_enter Tryz.func44,Tryz.ntmps44
 go_wp2_with (first
  | (go_at_call 32
     refine CP.out.mono ?_
     clear CP
     rintro e w1 ⟨rfl,k1,d1⟩
     have hp1:=HA.out.old k1 (Nat.le_refl _) HBP.out
     have ho1:=HA.out.old k1 (Nat.le_succ _) HBO.out
     have c10:w1.cell? ⟨w.heap.size,0,none⟩=some (ptr bx):=Za hp1 0
     have c11:w1.cell? ⟨w.heap.size,1,none⟩=some (ptr bd):=Za hp1 1
     have c22:w1.cell? ⟨w.heap.size+1,2,none⟩=some (.int .i64 A):=Za ho1 2
     have c23:w1.cell? ⟨w.heap.size+1,3,none⟩=some (.int .i64 B):=Za ho1 3
     have c24:w1.cell? ⟨w.heap.size+1,4,none⟩=some (.int .i64 C):=Za ho1 4
     have c25:w1.cell? ⟨w.heap.size+1,5,none⟩=some (.string S):=Za ho1 5
     have c26:w1.cell? ⟨w.heap.size+1,6,none⟩=some (.int .i64 p0):=Za ho1 6
     have c27:w1.cell? ⟨w.heap.size+1,7,none⟩=some (.int .i64 p1):=Za ho1 7
     have CR:=hid (HR.out w1 FR bd (HA.out.ref HB.out k1))
     have K1:=hid k1
     have D1:=hid d1
     clear k1 d1 hp1 ho1)
  | (go_at_call 83
     refine CR.out.mono ?_
     clear CR
     rintro e w2 ⟨rfl,k2,r2⟩
     have PL:=hid (HA.out.play2 HB.out K1.out k2)
     have K2:=hid k2
     have R2:=hid r2
     clear k2 r2)
  | (go_at_call 20
     obtain⟨l0,a0,y0,-,hq⟩:=PL.out
     refine(Yx yb psv l0 a0 y0 a y w2 hq).mono ?_
     rintro e w4 ⟨rfl,k4,hq4⟩
     have K4:=hid k4
     have Q4:=hid hq4
     clear k4 hq4 hq))
 go_ret
 exact Yy HPD.out HA.out HWF.out HB.out K1.out D1.out K2.out R2.out K4.out ⟨_,_,_,rfl,Q4.out⟩
theorem Zhd (hPD:PDOk PD) (hGB:∀ w w',G w→Below w.heap.size w w'→G w') (hA:ZU PD FP FR w yb bx bd psv s) (hg:G w)
 (D A B C:Int) (S:ByteArray) (p0 p1 q0 q1:Int) (h:∃ a0 a1 b0 b1':Int,Ans PD G s 36 84 [.int .i64 A] (fun v=>.tuple #[.agg #[.int .i64 a0,.int .i64 a1,.int .i64 b0,.int .i64 b1'],v]) (fun v=>.tuple #[.agg #[.int .i64 a0,.int .i64 a1,.int .i64 b0,.int .i64 b1'],v])) :
 Calls Tryz.prog 44 #[ptr yb,.agg #[ptr bx,ptr bd],opV 13 D A B C S p0 p1 q0 q1] w (Z8 PD FP FR w yb bx bd psv):=by
 obtain⟨a0,a1,b0,b1',a,y,s',hwf,hp,hr⟩:=h
 have hB:=Ys w bx bd 13 D A B C S p0 p1 q0 q1
 have hbp:=Yu w bx bd 13 D A B C S p0 p1 q0 q1
 have hbo:=Yt w bx bd 13 D A B C S p0 p1 q0 q1
 have CP:=hid (hp (Z9 w bx bd 13 D A B C S p0 p1 q0 q1) FP bx (hGB _ _ hg hB) (hPD.keeps hA.pd (Zb.of_below (F:=fun _=>False) hB) (fun _ _ e=>e)))
 have HB:=hid hB
 have HBP:=hid hbp
 have HBO:=hid hbo
 have HR:=hid hr
 have HA:=hid hA
 have HPD:=hid hPD
 have HWF:=hid hwf
 clear hp hr hB hbp hbo hA hPD hwf hg hGB
 go_enter Tryz.func44,Tryz.ntmps44
 go_wp2_with (first
  | (go_at_call 36
     refine CP.out.mono ?_
     clear CP
     rintro e v1 ⟨rfl,kv,dv⟩
     have k1:Zb FP (Z9 w bx bd 13 D A B C S p0 p1 q0 q1) (v1.alloc (.cells #[.int .i64 a0,.int .i64 a1,.int .i64 b0,.int .i64 b1'] 79)):=kv.alloc _
     have d1:PD (v1.alloc (.cells #[.int .i64 a0,.int .i64 a1,.int .i64 b0,.int .i64 b1'] 79)) (grow FP (Z9 w bx bd 13 D A B C S p0 p1 q0 q1)) bx s':=HPD.out.keeps dv ((Zb.refl (fun _=>False) v1).alloc _) (fun _ _ e=>e)
     have hp1:=HA.out.old kv (Nat.le_refl _) HBP.out
     have ho1:=HA.out.old kv (Nat.le_succ _) HBO.out
     have hl1:=Zc hp1
     have hl2:=Zc ho1
     have c10:v1.cell? ⟨w.heap.size,0,none⟩=some (ptr bx):=Za hp1 0
     have c11:v1.cell? ⟨w.heap.size,1,none⟩=some (ptr bd):=Za hp1 1
     have c22:v1.cell? ⟨w.heap.size+1,2,none⟩=some (.int .i64 A):=Za ho1 2
     have CR:=hid (HR.out (v1.alloc (.cells #[.int .i64 a0,.int .i64 a1,.int .i64 b0,.int .i64 b1'] 79)) FR bd (HA.out.ref HB.out k1))
     have HSP:=hid (heap_alloc_new v1 (.cells #[.int .i64 a0,.int .i64 a1,.int .i64 b0,.int .i64 b1'] 79))
     have K1:=hid k1
     have D1:=hid d1
     have VL:=hid (Nat.le_trans HB.out.size kv.size)
     clear k1 d1 hp1 ho1 kv dv)
  | (go_at_call 84
     refine CR.out.mono ?_
     clear CR
     rintro e w2 ⟨rfl,k2,r2⟩
     have hs2:=HA.out.old2 k2 VL.out HSP.out
     have t0:w2.cell? ⟨v1.heap.size,0,none⟩=some (.int .i64 a0):=Za hs2 0
     have t1:w2.cell? ⟨v1.heap.size,1,none⟩=some (.int .i64 a1):=Za hs2 1
     have t2:w2.cell? ⟨v1.heap.size,2,none⟩=some (.int .i64 b0):=Za hs2 2
     have t3:w2.cell? ⟨v1.heap.size,3,none⟩=some (.int .i64 b1'):=Za hs2 3
     have hl3:=Zc hs2
     have HS2:=hid hs2
     clear hs2
     have PL:=hid (HA.out.play2 HB.out K1.out k2)
     have K2:=hid k2
     have R2:=hid r2
     clear k2 r2)
  | (go_at_call 20
     obtain⟨l0,e0,y0,-,hq⟩:=PL.out
     have hyl:=Zc hq
     have hyw:yb<w.heap.size:=by obtain⟨_,_,_,_,h⟩:=HA.out.play;exact Zc h
     refine(Yx yb psv l0 e0 y0 a y ((w2.alloc (.cells #[.int .i64 a0,.int .i64 a1,.int .i64 b0,.int .i64 b1'] 79)).alloc (.cells #[.int .i64 a,.int .i64 y] 32)) ((Below.heap_alloc _ _ _ (by simp;omega)).trans ((Below.heap_alloc _ _ _ hyl).trans hq))).mono ?_
     rintro e w4 ⟨rfl,k4,hq4⟩
     have b1:=(k4.block v1.heap.size (by simp;omega) (by have:=VL.out;omega)).trans ((Below.heap_alloc _ _ _ (by simp;omega)).trans ((Below.heap_alloc _ _ _ hl3).trans HS2.out))
     have b2:=(k4.block w2.heap.size (by simp;omega) (by have:=VL.out;omega)).trans ((Below.heap_alloc _ _ _ (by simp)).trans (heap_alloc_new w2 (.cells #[.int .i64 a0,.int .i64 a1,.int .i64 b0,.int .i64 b1'] 79)))
     have m0:w4.cell? ⟨v1.heap.size,0,none⟩=some (.int .i64 a0):=Za b1 0
     have m1:w4.cell? ⟨v1.heap.size,1,none⟩=some (.int .i64 a1):=Za b1 1
     have m2:w4.cell? ⟨v1.heap.size,2,none⟩=some (.int .i64 b0):=Za b1 2
     have m3:w4.cell? ⟨v1.heap.size,3,none⟩=some (.int .i64 b1'):=Za b1 3
     have n0:w4.cell? ⟨w2.heap.size,0,none⟩=some (.int .i64 a0):=Za b2 0
     have n1:w4.cell? ⟨w2.heap.size,1,none⟩=some (.int .i64 a1):=Za b2 1
     have n2:w4.cell? ⟨w2.heap.size,2,none⟩=some (.int .i64 b0):=Za b2 2
     have n3:w4.cell? ⟨w2.heap.size,3,none⟩=some (.int .i64 b1'):=Za b2 3
     have K4:=hid k4
     have Q4:=hid hq4
     clear k4 hq4 hq b1 b2))
 go_ret
 exact Yy HPD.out HA.out HWF.out HB.out K1.out D1.out K2.out R2.out ((((Zb.refl (fun b=>b=yb) w2).alloc _).alloc _).trans (K4.out.mono (fun k _ e=>.inl e))) ⟨_,_,_,rfl,Q4.out⟩
end
section
variable {PD:PDT} {Q:Nat→Prop} {w0 w:World} {yb:Nat} {docs:List DocR}
theorem Zep (hPD:PDOk PD) (h:InvE PD Q w0 w yb docs) (kind D A B C:Int) (S:ByteArray) (p0 p1 q0 q1:Int) (hk2:10≤kind) (hk6:kind≤15) (hd0:0 < docs.length) (hdl:docs.length < lots)
 (hD1:-9223372036854775808≤D) (hD2:D≤9223372036854775807)
 (hN:∀ (W:World) (own:Nat→Nat) (psv:Value) (i:Nat) (d:DocR),docs[i]?=some d→Inv PD Q w0 W yb docs own psv →
   Calls Tryz.prog 44 #[ptr yb,.agg #[ptr d.bx,ptr d.bd],opV kind D A B C S p0 p1 q0 q1] W (Z8 PD (fun b=>own b=2*i+2) (fun b=>own b=2*i+3) W yb d.bx d.bd psv)) :
 Calls Tryz.prog 15 #[ptr yb,opV kind D A B C S p0 p1 q0 q1] w (YJ PD Q w0 yb docs.length docs.length):=by
 have hI:=h
 obtain⟨own,psv,h⟩:=h
 rcases ZB h.row with ⟨_,hz⟩|⟨g,c,hv⟩
 · omega
 have hrow:=h.row
 rw[hv] at hrow
 obtain⟨l0,a0,y0,-,hq⟩:=h.play
 have hl:=Zc hq
 have c0:w.cell? ⟨yb,0,none⟩=some (.slice (some ⟨g,0,none⟩) docs.length c):=by rw[← hv];exact Za hq 0
 have hi:=ZbW D hd0
 obtain⟨i,hie⟩:∃ i,Xy D docs.length=i:=⟨_,rfl⟩
 rw[hie] at hi
 have hd:docs[i]?=some docs[i]:=List.getElem?_eq_getElem hi
 generalize docs[i]=d at hd
 have hpg:=ZbU docs i d hd
 have cx:w.cell? ⟨g,i*2,none⟩=some (ptr d.bx):=by rw[hrow.cellAt (i*2) (by omega)];exact hpg.1
 have cd:w.cell? ⟨g,i*2+1,none⟩=some (ptr d.bd):=by rw[hrow.cellAt (i*2+1) (by omega)];exact hpg.2
 have hgl:g<w.heap.size:=(hrow.lt g rfl).2
 have hk1':(kind == 1)=false:=by simp;omega
 have hk2':decide (kind<2)=false:=decide_eq_false (by omega)
 have hk3':decide (15<kind)=false:=decide_eq_false (by omega)
 have h0':((docs.length:Int) == 0)=false:=by simp;intro e;rw[e] at hd0;simp at hd0
 have hk6':decide (kind≤6)=false:=decide_eq_false (by omega)
 have hk9':decide (kind≤9)=false:=decide_eq_false (by omega)
 have PICK:=hid (ZbX D docs.length hd0 hdl hD1 hD2)
 have hil:i<docs.length:=hi
 have HIE:=hid hie
 have HDL:=hid hdl
 have HI:=hid hI
 have HPD:=hid hPD
 have HN:=hid hN
 have HD:=hid hd
 clear hq h hI hPD hv hrow hN hd hpg hi hie hdl hD1 hD2
 go_enter Tryz.func15,Tryz.ntmps15
 go_wp2
 go_region_held3 (fun w'=>w'.cell? ⟨yb,0,none⟩=some (.slice (some ⟨g,0,none⟩) docs.length c)∧w'.cell? ⟨w.heap.size,1,none⟩=some (.int .i64 D)∧w'.cell? ⟨g,i*2,none⟩=some (ptr d.bx)∧w'.cell? ⟨g,i*2+1,none⟩=some (ptr d.bd)) (go_keep) (first
  | (go_at_call 21;refine(PICK.out _).mono ?_;rintro e w' ⟨rfl,rfl⟩;rw[HIE.out]))
 all_goals
  have hb:Below w.heap.size w (((w.alloc (.cells (Xb kind D A B C S p0 p1 q0 q1) 39)).alloc (.cells #[ptr d.bx,ptr d.bd] 44)).drew):=(((Below.refl _ w).alloc (Nat.le_refl _) _).alloc (by simp) _).drew
  obtain⟨own2,psv2,hI2⟩:=HI.out.below HPD.out hb
  have CN:=hid (HN.out (((w.alloc (.cells (Xb kind D A B C S p0 p1 q0 q1) 39)).alloc (.cells #[ptr d.bx,ptr d.bd] 44)).drew) own2 psv2 i d HD.out hI2)
  have HI2:=hid hI2
  clear hb hI2
  go_wp2_with (go_at_call 44;refine CN.out.mono ?_;intro e w3 hp;have he:=hp.1;subst he;have HP:=hid hp;clear hp)
  go_ret
  exact HI2.out.stepped HPD.out HD.out HP.out
end
structure Answers3 (PD:PDT) (G:World→Prop):Prop extends Answers2 PD G where
 range:∀ s,PD.ok s→∃ n:Int,Ans PD G s 56 81 [] (fun v=>.tuple #[.int .i64 n,v]) (fun v=>.tuple #[.int .i64 n,v])
 start:∀ s,PD.ok s→∀ A p0 p1:Int,Ans PD G s 31 82 [.int .i64 A,.agg #[.int .i64 p0,.int .i64 p1]] (fun v=>v) (fun v=>v)
 finish:∀ s,PD.ok s→∀ A p0 p1:Int,Ans PD G s 32 83 [.int .i64 A,.agg #[.int .i64 p0,.int .i64 p1]] (fun v=>v) (fun v=>v)
 span:∀ s,PD.ok s→∀ A:Int,∃ a0 a1 b0 b1:Int,Ans PD G s 36 84 [.int .i64 A] (fun v=>.tuple #[.agg #[.int .i64 a0,.int .i64 a1,.int .i64 b0,.int .i64 b1],v]) (fun v=>.tuple #[.agg #[.int .i64 a0,.int .i64 a1,.int .i64 b0,.int .i64 b1],v])
theorem Zif {PD:PDT} {G:World→Prop} (hA:Answers3 PD G) {Q:Nat→Prop} {w0:World} {yb:Nat} (hG:∀ W,Zb Q w0 W→G W) (o:OpR) (ho:OpOk o) (hk:10≤o.kind∧o.kind≤13) (W:World) (docs:List DocR) (hI:InvE PD Q w0 W yb docs) (hdl:docs.length < lots) :
 Calls Tryz.prog 15 #[ptr yb,o.val] W (YJ PD Q w0 yb docs.length docs.length):=by
 obtain⟨kind,D,A,B,C,S,p0,p1,q0,q1⟩:=o
 obtain⟨d1,d2,hs⟩:=ho
 simp only at d1 d2 hs hk
 by_cases h0:docs.length=0
 · exact J7 hA.pd hI kind D A B C S p0 p1 q0 q1 (by omega) (.inl h0)
 refine Zep hA.pd hI kind D A B C S p0 p1 q0 q1 hk.1 (by omega) (by omega) hdl d1 d2 (fun W1 own psv i d hd hI1=>?_)
 have hp:=hI1.pair hd
 have hwf:=(hI1.doc i d hd).2.2
 have hg:=hG _ hI1.fr
 have hc:kind=10∨kind=11∨kind=12∨kind=13:=by omega
 rcases hc with rfl|rfl|rfl|rfl
 · exact Zhb hA.pd hA.gb hp hg D A B C S p0 p1 q0 q1 (hA.range d.s hwf)
 · exact Zhe hA.pd hA.gb hp hg D A B C S p0 p1 q0 q1 (hA.start d.s hwf A p0 p1)
 · exact Zha hA.pd hA.gb hp hg D A B C S p0 p1 q0 q1 (hA.finish d.s hwf A p0 p1)
 · exact Zhd hA.pd hA.gb hp hg D A B C S p0 p1 q0 q1 (hA.span d.s hwf A)
end
end Go.Proofs.YtabogkonklplcaaGreatDoor
