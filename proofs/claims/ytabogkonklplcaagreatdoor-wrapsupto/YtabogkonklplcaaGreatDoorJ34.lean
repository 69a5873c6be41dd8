import Derived.Test.YtabogkonklplcaaGreatDoorJ28
import Derived.Test.YtabogkonklplcaaGreatDoorJ33
import Derived.Test.YtabogkonklplcaaGreatDoorJ32
namespace Go.Proofs.YtabogkonklplcaaGreatDoor
set_option linter.unusedSimpArgs false
set_option linter.unusedVariables false
set_option maxRecDepth 20000
set_option maxHeartbeats 8000000
section
open Go.RowKit
section
variable {w:World} {F:Nat→Prop} {bf bn cap:Nat} {pn:List PN} {s:List Nd}
theorem Zjk {B b:Nat} (hD:Zh w F bf bn cap pn s) (hF:∀ b,F b→b < B) (n:Nat) (x:Nd) (f:Nat→ByteArray) (hx:s[n]?=some x) (ht:x.t=false) (hn:n < 40) (hks:x.ks.length < lots) (acc:ByteArray) (h:Bld B b (Lib.strCells acc) w) (hBw:B≤w.heap.size)
 (hlen:acc.size+(x.ks.foldl (ZN f) (⟨#[60]⟩++digB n)).size+20<lots)
 (ih:∀ c∈x.ks,∀ (w1:World) (a1:ByteArray),Zh w1 F bf bn cap pn s→Bld B b (Lib.strCells a1) w1→B≤w1.heap.size→a1.size+(f c).size+20<lots→Calls Tryz.prog 147 #[ptr bf,ptr b,.int .i64 c] w1 (Wrote B b (a1++f c) w1)) :
 Calls Tryz.prog 147 #[ptr bf,ptr b,.int .i64 n] w (Wrote B b (acc++(x.ks.foldl (ZN f) (⟨#[60]⟩++digB n)++⟨#[62]⟩)) w):=by
 have hi:n<s.length:=(List.getElem?_eq_some_iff.1 hx).1
 have h0:=hD.nodesCell
 obtain⟨r,hr,ho,c0,c1,c2,c3⟩:=hD.look hx
 rw[ht] at c1
 have hds:=JK n
 unfold lots at hks
 have hm0:=JM f x.ks (⟨#[60]⟩++digB n)
 have e60:(⟨#[60]⟩:ByteArray).size=1:=rfl
 rw[ByteArray.size_append] at hm0
 have C0:=hid (X6 60 h (by rw[Lib.strCells_length];omega) hBw)
 rw[show Lib.strCells acc++[Value.int .u8 60]=Lib.strCells (acc++⟨#[60]⟩) from by rw[Y4];rfl] at C0
 have C1:=hid (Tryz.strconv_Itoa_small n (by omega))
 rw[dig_eq n hn] at C1
 have C2:=hid (fun (w1:World) (h1:BldU B b (Lib.strCells (acc++⟨#[60]⟩)) w1) (hB1:B≤w1.heap.size)=>ZcA (digB n) (YX h1) (by rw[Lib.strCells_length,ByteArray.size_append];omega) hB1)
 rw[← Y4,ByteArray.append_assoc] at C2
 obtain⟨a2,d2,hv2⟩:=Zo ho.kids
 have HROW:=hid (fun w1 (hb:Below B w w1)=>(((hD.under hF hb).ok n r x hr hx).kids))
 have HC2:=hid (fun w1 (hb:Below B w w1)=>(hD.under hF hb).cellAt hr 2 (by omega))
 have HN:=hid (fun w1 (hb:Below B w w1)=>(hD.under hF hb).nodesCell)
 have HF:=hid (fun w1 (hb:Below B w w1)=>hD.under hF hb)
 have HL:=hid hlen
 have IH:=hid ih
 have hkv:r.cells[2]?=some (.slice a2 x.ks.length d2):=by rw[← hv2];rfl
 rw[hkv] at HC2
 rw[hv2] at HROW
 clear hD hr ho hx c0 c2 c3 h hlen hF ih hkv hv2 hm0
 have CE:=hid (fun (w1:World) (t1:ByteArray) (h1:BldU B b (Lib.strCells t1) w1) (ht1:t1.size<lots) (hB1:B≤w1.heap.size)=>X6 62 (YX h1) (by rw[Lib.strCells_length];exact ht1) hB1)
 have fin:∀ t1:ByteArray,Lib.strCells t1++[Value.int .u8 62]=Lib.strCells (t1++⟨#[62]⟩):=fun t1=>by rw[Y4];rfl
 have FIN:=hid fin
 clear fin
 go_enter Tryz.func147,Tryz.ntmps147
 go_wp2_with first
  | (go_at_call 177;refine C0.out.mono ?_;rintro e w1 ⟨rfl,hu1,hb1,_⟩
     have hs1:=hb1.size
     have C3:=hid (C2.out w1 hu1 (by omega)))
  | (go_at_call 175;refine(C1.out _).mono ?_;rintro e w9 ⟨rfl,rfl⟩)
  | (go_at_call 174;refine C3.out.mono ?_;rintro e w2 ⟨rfl,hu2,hb2,_⟩
     have hs2:=hb2.size
     have hb02:=hb1.trans hb2
     have d0:=HN.out w2 hb02
     have d2':=HC2.out w2 hb02)
 go_loopw [45] (fun a wr=>∃ j:Nat,j≤x.ks.length∧a=.int .i64 j∧BldU B b (Lib.strCells (acc++(x.ks.take j).foldl (ZN f) (⟨#[60]⟩++digB n))) wr∧Below B w wr) (fun a _=>x.ks.length - (intOf a).toNat)
 case atStart=>exact⟨0,Nat.zero_le _,rfl,hu2,hb02⟩
 case round =>
  obtain⟨j,hj,rfl,hur,hbr⟩:=hrel
  have hsr:=hbr.size
  have hLL:=HL.out
  have hmono:((x.ks.take j).foldl (ZN f) (⟨#[60]⟩++digB n)).size≤(x.ks.foldl (ZN f) (⟨#[60]⟩++digB n)).size:=by
   have:=JM f (x.ks.drop j) ((x.ks.take j).foldl (ZN f) (⟨#[60]⟩++digB n))
   rw[← List.foldl_append,List.take_append_drop] at this
   exact this
  by_cases hjl:j<x.ks.length
  · obtain⟨u,hu⟩:∃ u,x.ks[j]?=some u:=⟨_,List.getElem?_eq_getElem hjl⟩
    have hum:u∈x.ks:=List.mem_of_getElem? hu
    have htake:x.ks.take (j+1)=x.ks.take j++[u]:=by rw[List.take_add_one,hu];rfl
    have hstep:(x.ks.take (j+1)).foldl (ZN f) (⟨#[60]⟩++digB n)=(x.ks.take j).foldl (ZN f) (⟨#[60]⟩++digB n)++⟨#[32]⟩++f u:=by rw[htake,List.foldl_append];rfl
    have hmono2:((x.ks.take (j+1)).foldl (ZN f) (⟨#[60]⟩++digB n)).size≤(x.ks.foldl (ZN f) (⟨#[60]⟩++digB n)).size:=by
     have:=JM f (x.ks.drop (j+1)) ((x.ks.take (j+1)).foldl (ZN f) (⟨#[60]⟩++digB n))
     rw[← List.foldl_append,List.take_append_drop] at this
     exact this
    rw[hstep] at hmono2
    rcases ZB (HROW.out wr hbr) with ⟨_,hl0⟩|⟨g,cc,hv⟩
    · omega
    · cases hv
      have cel:wr.cell? ⟨g,j,none⟩=some (.int .i64 (u:Int)):=by
       rw[(HROW.out wr hbr).cellAt j (by omega)]
       simp[Zg,hu]
      generalize (x.ks.take j).foldl (ZN f) (⟨#[60]⟩++digB n)=T at hur hmono hmono2 hstep
      rw[ByteArray.size_append,ByteArray.size_append] at hmono2
      have e32:(⟨#[32]⟩:ByteArray).size=1:=rfl
      have C32:=hid (X6 32 (YX hur) (by rw[Lib.strCells_length,ByteArray.size_append];omega) (by omega))
      rw[show Lib.strCells (acc++T)++[Value.int .u8 32]=Lib.strCells (acc++T++⟨#[32]⟩) from by rw[Y4 (acc++T)];rfl] at C32
      have CI:=hid (fun (wx:World) (hx:BldU B b (Lib.strCells (acc++T++⟨#[32]⟩)) wx) (hbx:Below B w wx)=>IH.out u hum wx (acc++T++⟨#[32]⟩) (HF.out wx hbx) (YX hx) (by have:=hbx.size;omega) (by rw[ByteArray.size_append,ByteArray.size_append];omega))
      have STEP:=hid hstep
      have hjI:((j:Int)<x.ks.length):=by omega
      clear hstep htake hmono hmono2 hLL hur hu hum
      go_wp2_with first
       | (go_at_call 177;refine C32.out.mono ?_;rintro e w5 ⟨rfl,hu5,hb5,_⟩
          have hb05:=hbr.trans hb5
          have CJ:=hid (CI.out w5 hu5 hb05))
       | (go_at_call 147;refine CJ.out.mono ?_;rintro e w6 ⟨rfl,hu6,hb6⟩)
      go_roundw
      case rel =>
       refine⟨j+1,by omega,by go_num,?_,hb05.trans hb6⟩
       rw[STEP.out,← ByteArray.append_assoc,← ByteArray.append_assoc]
       exact hu6
      case measure=>simp[intOf];omega
  · have hjn:¬ (j:Int)<x.ks.length:=by omega
    obtain rfl:j=x.ks.length:=by omega
    rw[List.take_of_length_le (Nat.le_refl _)] at hur
    have CZ:=hid (CE.out wr _ hur (by rw[ByteArray.size_append];omega) (by omega))
    clear hmono hLL hur
    go_wp2_with (go_at_call 177;refine CZ.out.mono ?_;rintro e w3 ⟨rfl,hu3,hb3,_⟩)
    go_end0
    refine⟨rfl,?_,hbr.trans hb3⟩
    rw[FIN.out,ByteArray.append_assoc] at hu3
    exact hu3
end
end
section
open Go.ChangeShapes Go.WideShapes Go.ChangeAt Go.RowKit Go.Deep
section
variable {PD:PDT} {G:World→Prop}
theorem bulk_of {H:Type} {d:DataW H} (hk:Rows.uptoSmall H ([d]++[])=true):Rows.uptoBulk d≤1048576:=by
 have h:=of_decide_eq_true hk
 rw[List.append_nil] at h
 simp only[Rows.uptoBulkAll] at h
 exact h
end
end
end Go.Proofs.YtabogkonklplcaaGreatDoor
