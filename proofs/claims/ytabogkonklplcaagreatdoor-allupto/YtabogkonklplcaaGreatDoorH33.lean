import Derived.Test.YtabogkonklplcaaGreatDoorH23
import Derived.Test.YtabogkonklplcaaGreatDoorH14
import Derived.Test.YtabogkonklplcaaGreatDoorH08
import Derived.LoopTactic
import Derived.Test.YtabogkonklplcaaGreatDoorH30
import Derived.Deep.QuietTactic
import Derived.BigQuiet
import Derived.Test.YtabogkonklplcaaGreatDoorH32
import Derived.Test.YtabogkonklplcaaGreatDoorH19
import Derived.Lib.LaidU8T
import Derived.PinnedBridge
import Derived.Test.YtabogkonklplcaaGreatDoorH03
import Derived.KernelRfl
namespace Go.Proofs.YtabogkonklplcaaGreatDoor
set_option linter.unusedSimpArgs false
set_option linter.unusedVariables false
set_option maxRecDepth 20000
set_option maxHeartbeats 8000000
section
open Go.RowKit
theorem Y4 (a b:ByteArray):Lib.strCells (a++b)=Lib.strCells a++Lib.strCells b:=by
 simp[Lib.strCells,ByteArray.data_append]
theorem enc_39 {r:Int} (h:Lib.runeCells r=[.int .u8 39]):r=39:=by
 unfold Lib.runeCells Lib.encodeRuneZ at h
 split at h
 · simpa using h
 · (repeat' split at h) <;> simp at h
theorem enc_92 {r:Int} (h:Lib.runeCells r=[.int .u8 92]):r=92:=by
 unfold Lib.runeCells Lib.encodeRuneZ at h
 split at h
 · simpa using h
 · (repeat' split at h) <;> simp at h
theorem Zik {c:ByteArray} (h:Lib.strCells c=[.int .u8 39]):c.data.toList=[39]:=by
 unfold Lib.strCells at h
 rw[List.map_eq_singleton_iff] at h
 obtain⟨a,h1,h2⟩:=h
 rw[h1]
 simp at h2
 have:a.toNat=39:=by omega
 rw[show a=39 from UInt8.toNat_inj.1 this]
theorem Zil {c:ByteArray} (h:Lib.strCells c=[.int .u8 92]):c.data.toList=[92]:=by
 unfold Lib.strCells at h
 rw[List.map_eq_singleton_iff] at h
 obtain⟨a,h1,h2⟩:=h
 rw[h1]
 simp at h2
 have:a.toNat=92:=by omega
 rw[show a=92 from UInt8.toNat_inj.1 this]
theorem rune_q {c:ByteArray} {R:Nat} (h:Lib.runeCells (R:Int)=Lib.strCells c):isQ c=(decide (R=39) || decide (R=92)):=by
 unfold isQ
 rw[Lib.toList_data]
 by_cases h1:R=39
 · subst h1
   have e:Lib.runeCells ((39:Nat):Int)=[.int .u8 39]:=by unfold Lib.runeCells;rw[Lib.encodeRuneZ_one (by decide) (by decide)];rfl
   rw[e] at h
   rw[Zik h.symm]
   decide
 · by_cases h2:R=92
   · subst h2
     have e:Lib.runeCells ((92:Nat):Int)=[.int .u8 92]:=by unfold Lib.runeCells;rw[Lib.encodeRuneZ_one (by decide) (by decide)];rfl
     rw[e] at h
     rw[Zil h.symm]
     decide
   · have n1:(c.data.toList == [39])=false:=by
      rw[beq_eq_false_iff_ne]
      intro e
      have:Lib.strCells c=[.int .u8 39]:=by unfold Lib.strCells;rw[e];rfl
      rw[this] at h
      have:=enc_39 h
      omega
     have n2:(c.data.toList == [92])=false:=by
      rw[beq_eq_false_iff_ne]
      intro e
      have:Lib.strCells c=[.int .u8 92]:=by unfold Lib.strCells;rw[e];rfl
      rw[this] at h
      have:=enc_92 h
      omega
     rw[n1,n2]
     simp[h1,h2]
end
section
open Go.RowKit
theorem YW {B b:Nat} {bs:List Value} {w:World} (h:BldU B b bs w):Bld B b bs w:=.inr h
def XF (w w':World):Prop:=∀ (k:Nat) (cur:Array Value) (e:TypeId) (fz:Nat × Nat),w.heap[k]?=some (.cells cur e fz)→w'.heap[k]?=some (.cells cur e fz)
theorem XF.alloc (w:World) (o:Obj):XF w (w.alloc o):=fun k cur e fz hk=>by rw [Below.heap_alloc _ _ _ (Zc hk)];exact hk
theorem XF.iterAt {w:World} {k:Nat} {t:ByteArray} {p:Nat} (hi:w.heap[k]?=some (.stringIter t p)) (q:Nat):XF w (w.iterAt k t q):=fun j cur e fz hj=>by
 have hne:j≠k:=fun e=>by subst e;rw[hi] at hj;cases hj
 rw[Lib.iterAt_other w k j t q hne];exact hj
theorem Zcy {B b:Nat} {bs:List Value} {w w':World} (h:BldU B b bs w) (hk:XF w w'):BldU B b bs w':=by
 obtain⟨hB,v,hb,ho,hne⟩:=h
 refine⟨hB,v,hk _ _ _ _ hb,⟨ho.1,?_⟩,hne⟩
 rcases ho.2 with h|⟨g,cap,cur,hv,hg,hh,rest⟩
 · exact .inl h
 · exact .inr ⟨g,cap,cur,hv,hg,hk _ _ _ _ hh,rest⟩
theorem Ziv (acc c:ByteArray):Lib.strCells (Zx acc c)=(if isQ c then Lib.strCells acc++[.int .u8 92] else Lib.strCells acc)++Lib.strCells c:=by
 unfold Zx
 rw[Y4]
 split
 · rw[Y4];rfl
 · rfl
def QuoteInv (B b k:Nat) (w:World) (cs:List ByteArray) (acc:ByteArray) (wr:World):Prop :=
 ∃ l r,cs=l++r∧wr.heap[k]?=some (.stringIter (catB cs) (catB l).size)∧Below B w wr∧B≤wr.heap.size∧BldU B b (Lib.strCells (l.foldl Zx acc)) wr
theorem Zg8 {cs l r:List ByteArray} (h:cs=l++r) (hc:∀ c∈cs,IsCh c) (hp:¬ (catB l).size < (catB cs).size):l=cs:=by
 cases r with
 | nil=>simpa using h.symm
 | cons c r =>
   exfalso
   subst h
   obtain⟨R,_,_,_,h4,_⟩:=Zai l c r (hc c (by simp))
   exact hp h4
theorem Zg9 {cs l r:List ByteArray} (h:cs=l++r) (hc:∀ c∈cs,IsCh c) (hp:(catB l).size < (catB cs).size) :
 ∃ c r',r=c::r'∧∃ R:Nat,Utf8.decode (catB cs) (catB l).size=(R,c.size)∧Lib.runeCells (R:Int)=Lib.strCells c∧R≤2147483647∧(catB (l++[c])).size=(catB l).size+c.size∧c.size≠0:=by
 cases r with
 | nil=>subst h;simp at hp
 | cons c r =>
   subst h
   obtain⟨R,h1,h2,h3,_,h5⟩:=Zai l c r (hc c (by simp))
   exact⟨c,r,rfl,R,h1,h2,h3,h5,(hc c (by simp)).1⟩
theorem Zha {B b:Nat} {w:World} (cs:List ByteArray) (acc:ByteArray) (h:Bld B b (Lib.strCells acc) w) (hBw:B≤w.heap.size) (hc:∀ c∈cs,IsCh c) (hlen:(cs.foldl Zx (acc++⟨#[39]⟩)).size+10 < lots) (hmono:∀ l r,cs=l++r→(l.foldl Zx (acc++⟨#[39]⟩)).size≤(cs.foldl Zx (acc++⟨#[39]⟩)).size) :
 Calls Tryz.prog 176 #[ptr b,.string (catB cs)] w fun e w'=>e=.returned (.tuple #[])∧BldU B b (Lib.strCells (cs.foldl Zx (acc++⟨#[39]⟩)++⟨#[39]⟩)) w'∧Below B w w':=by
 have hl0:acc.size<lots:=by
  have:=hmono [] cs rfl
  simp only[List.foldl_nil,ByteArray.size_append] at this
  omega
 have C0:=hid (X6 39 h (by rw[Lib.strCells_length];exact hl0) hBw)
 rw[show Lib.strCells acc++[Value.int .u8 39]=Lib.strCells (acc++⟨#[39]⟩) from by rw[Y4];rfl] at C0
 generalize acc++⟨#[39]⟩=acc1 at C0 hlen hmono ⊢
 have HC:=hid hc
 have HL:=hid hlen
 have HM:=hid hmono
 clear h hl0 hc hlen hmono
 go_enter Tryz.func176,Tryz.ntmps176
 go_wp2_with (go_at_call 177;refine C0.out.mono ?_)
 rintro e w1 ⟨rfl,hu1,hb1,_⟩
 have hs1:=hb1.size
 go_wp2
 go_loopw [5] (fun _ wr=>QuoteInv B b w1.heap.size w cs acc1 wr) (fun _ wr=>(catB cs).size - wr.iterPos w1.heap.size)
 case atStart =>
  exact⟨[],cs,rfl,heap_alloc_new w1 _,hb1.alloc (by omega) _,(by show B≤(w1.alloc _).heap.size;rw[World.size_alloc];omega),Zcy hu1 (XF.alloc _ _)⟩
 case round =>
  obtain⟨l,r,hlr,hi,hb,hBr,hu⟩:=hrel
  have hm:=HM.out l r hlr
  have hL:=HL.out
  by_cases hp:(catB l).size<(catB cs).size
  · obtain⟨c,r',rfl,R,hd,hR,hR1,hsz,hc0⟩:=Zg9 hlr HC.out hp
    have hnx:=fun ty=>Lib.run_next_any_at (P:=Tryz.prog) _ w1.heap.size (catB cs) (catB l).size ty hi hp
    rw[hd] at hnx
    simp only at hnx
    have hq:=rune_q hR
    have hm2:=HM.out (l++[c]) r' (by rw[hlr];simp)
    rw[List.foldl_append,List.foldl_cons,List.foldl_nil] at hm2
    have hcl:=Ziv (l.foldl Zx acc1) c
    rw[hq] at hcl
    have hts:(Zx (l.foldl Zx acc1) c).size ≥ (l.foldl Zx acc1).size:=by
     have:=Za2 [c] (l.foldl Zx acc1)
     simpa using this
    have hi2:=Lib.iterAt_heap _ _ (catB cs) _ ((catB l).size+c.size) hi
    have hb2:=Lib.below_iterAt hb (k:=w1.heap.size) (by omega) (catB cs) ((catB l).size+c.size)
    have hu2:=Zcy hu (XF.iterAt hi ((catB l).size+c.size))
    have hB2:B≤(World.iterAt wr w1.heap.size (catB cs) ((catB l).size+c.size)).heap.size:=by rw[Lib.iterAt_size];exact hBr
    have REL:=hid (show cs=(l++[c])++r' by rw[hlr];simp)
    have SZ:=hid hsz
    have CL:=hid hcl
    have hb2s:=hb2.size
    have hlen2:(Lib.strCells (l.foldl Zx acc1)).length<lots:=by rw[Lib.strCells_length];omega
    have hlen3:(Lib.strCells (l.foldl Zx acc1)++[Value.int .u8 92]).length<lots:=by rw[List.length_append,Lib.strCells_length];simp;omega
    have C92:=hid (X6 92 (YW hu2) hlen2 hB2)
    have CR:=hid (Zcz (R:Int) (by omega) (by omega) (YW hu2) hlen2 hB2)
    have CR2:=hid (fun (wx:World) (hx:BldU B b (Lib.strCells (l.foldl Zx acc1)++[Value.int .u8 92]) wx) (hBx:B≤wx.heap.size)=>Zcz (R:Int) (by omega) (by omega) (YW hx) hlen3 hBx)
    rw[hR] at CR CR2
    have MEAS:=hid (show ∀ wx:World,wx.heap[w1.heap.size]?=some (.stringIter (catB cs) ((catB l).size+c.size))→(catB cs).size - wx.iterPos w1.heap.size<(catB cs).size - (catB l).size from fun wx hx=>by rw[iterPos_of hx];omega)
    have IP:=iterPos_of hi
    clear hlr hm hL hu hm2 hcl hts hlen2 hlen3 hR hsz hd hq
    by_cases h39:R=39∨R=92
    · rw[show (decide (R=39) || decide (R=92))=true from by simpa using h39,if_pos rfl] at CL
      rcases h39 with rfl|rfl
      · skip
        go_wp2_with first
         | (go_at_call 177;refine C92.out.mono ?_;rintro e w3 ⟨rfl,hu3,hb3,hk3⟩
            have hs3:=hb3.size
            have C9:=hid (CR2.out w3 hu3 (by omega)))
         | (go_at_call 160;refine C9.out.mono ?_;rintro e w4 ⟨n4,rfl,hu4,hb4,hk4⟩)
        have hi4:=hk4 _ _ _ (hk3 _ _ _ hi2)
        go_roundw
        case rel =>
         refine⟨l++[c],r',REL.out,by rw[SZ.out];exact hi4,hb2.trans ((hb3.trans hb4).mono (Nat.le_refl _)),by have:=hb4.size;omega,?_⟩
         rw[List.foldl_append,List.foldl_cons,List.foldl_nil,CL.out]
         exact hu4
        case measure =>
         rw[IP]
         exact MEAS.out _ hi4
      · skip
        go_wp2_with first
         | (go_at_call 177;refine C92.out.mono ?_;rintro e w3 ⟨rfl,hu3,hb3,hk3⟩
            have hs3:=hb3.size
            have C9:=hid (CR2.out w3 hu3 (by omega)))
         | (go_at_call 160;refine C9.out.mono ?_;rintro e w4 ⟨n4,rfl,hu4,hb4,hk4⟩)
        have hi4:=hk4 _ _ _ (hk3 _ _ _ hi2)
        go_roundw
        case rel =>
         refine⟨l++[c],r',REL.out,by rw[SZ.out];exact hi4,hb2.trans ((hb3.trans hb4).mono (Nat.le_refl _)),by have:=hb4.size;omega,?_⟩
         rw[List.foldl_append,List.foldl_cons,List.foldl_nil,CL.out]
         exact hu4
        case measure =>
         rw[IP]
         exact MEAS.out _ hi4
    · have h1:((R:Int) == 39)=false:=by simp;omega
      have h2:((R:Int) == 92)=false:=by simp;omega
      rw[show (decide (R=39) || decide (R=92))=false from by simpa using h39,if_neg (by decide)] at CL
      go_wp2_with (go_at_call 160;refine CR.out.mono ?_;rintro e w4 ⟨n4,rfl,hu4,hb4,hk4⟩)
      have hi4:=hk4 _ _ _ hi2
      go_roundw
      case rel =>
       refine⟨l++[c],r',REL.out,by rw[SZ.out];exact hi4,hb2.trans hb4,by have:=hb4.size;omega,?_⟩
       rw[List.foldl_append,List.foldl_cons,List.foldl_nil,CL.out]
       exact hu4
      case measure =>
       rw[IP]
       exact MEAS.out _ hi4
  · have hnx:=fun ty=>Lib.run_next_end_at (P:=Tryz.prog) _ w1.heap.size (catB cs) (catB l).size ty hi hp
    obtain rfl:=Zg8 hlr HC.out hp
    have CE:=hid (X6 39 (YW hu) (by rw[Lib.strCells_length];omega) hBr)
    clear hlr hm hL hu
    go_wp2_with (go_at_call 177;refine CE.out.mono ?_)
    rintro e w3 ⟨rfl,hu3,hb3,_⟩
    go_wp2
    go_end0
    exact⟨rfl,by rw[Y4];exact hu3,hb.trans (hb3.mono (Nat.le_refl _))⟩
end
section
open Go.RowKit
section
variable {w:World} {F:Nat→Prop} {bd bn cap:Nat} {rn:List RN} {rv:Value} {s:List Nd} {rs:List Sp}
theorem Zft (wf:WF s) (hD:Zf w F bd bn cap rn rv s rs) (n k n2 k2:Nat) (tf:Nat→Nat) (htf:∀ m,m < s.length→Zm s m (tf m)) (hn:n < s.length) (hn2:n2 < s.length) (hf:Zs s n k=(0,0)) (hg:Zs s n2 k2=(0,0)) (hne:tf n≠tf n2) :
 Calls Tryz.prog 80 #[.pointer (some ⟨bd,0,none⟩),.agg #[.int .i64 n,.int .i64 k],.agg #[.int .i64 n2,.int .i64 k2]] w fun e w'=>e=.returned (.tuple #[.int .i64 0,Zi n2 9])∧Below w.heap.size w w':=by
 have CF:=hid (Yy (hD.below (XZ w n k n2 k2)) n k)
 rw[hf] at CF
 have CG:=hid (fun w' (hb:Below w.heap.size w w')=>Yy (hD.below hb) n2 k2)
 rw[hg] at CG
 have CT:=hid (fun w' (hb:Below w.heap.size w w') m (hm:m<s.length) q=>XA (w:=w'.drewN q) wf (hD.below (Zj hb q)) (htf m hm) hm)
 have hneI:¬ (tf n:Int)=(tf n2:Int):=fun e=>hne (by omega)
 have hd:decide ((tf n:Int)=(tf n2:Int))=false:=decide_eq_false hneI
 clear hD wf htf
 go_enter Tryz.func80,Tryz.ntmps80
 go_wp2_with (first
  | (go_at_call 127;refine(CG.out w2 HB2.out).mono ?_;rintro e w3 ⟨rfl,hb3⟩
     have hc3:=HC2.out.below hb3
     obtain⟨-,-,-,⟨cf0,cf1⟩⟩:=hc3.cells
     obtain⟨-,⟨ff0,ff1⟩⟩:=hc3.frozen
     have HC3:=hid hc3
     have HB3:=hid (HB2.out.trans (hb3.mono HB2.out.size))
     clear hc3 hb3)
  | (go_at_call 127;refine CF.out.mono ?_;rintro e w1 ⟨rfl,hb1⟩
     have HB1:=hid hb1
     clear hb1)
  | (go_at_call 124;have hc4:=HC3.out.put 0 0;refine(Zy 0 0 _).mono ?_;rintro e w4 ⟨rfl,hb4⟩
     have hc5:=hc4.below hb4
     obtain⟨⟨da0,da1⟩,⟨db0,db1⟩,⟨cz0,cz1⟩,⟨cg0,cg1⟩⟩:=hc5.cells
     obtain⟨⟨fz0,fz1⟩,-⟩:=hc5.frozen
     have HC5:=hid hc5
     have HB5:=hid (((HB3.out.setCell (p:=⟨w1.heap.size,0,none⟩) (by have:=HC3.out.gt;show w.heap.size≤w1.heap.size;omega) (.int .i64 0)).setCell (p:=⟨w1.heap.size,1,none⟩) (by have:=HC3.out.gt;show w.heap.size≤w1.heap.size;omega) (.int .i64 0)).trans (hb4.mono (by have:=HB3.out.size;simpa using this)))
     clear hc4 hc5 hb4)
  | (go_at_call 124;refine(Zy 0 0 _).mono ?_;rintro e w2 ⟨rfl,hb2⟩
     obtain⟨hc2,hB2⟩:=Cmp.first HB1.out hb2
     obtain⟨⟨ca0,ca1⟩,⟨cb0,cb1⟩,-,-⟩:=hc2.cells
     have HC2:=hid hc2
     have HB2:=hid hB2
     clear hb2 hc2 hB2))
 go_quiet ((go_at_call 128;exact Calls.quiet_of_same (CT.out w4 HB5.out _ (by first|exact hn|exact hn2) _)))
 have hbne:((tf n:Int) != (tf n2:Int))=true:=by simpa using hneI
 rw[hbne]
 go_wp2_with (go_at_call 48;refine(ZK _ _ _).mono ?_;rintro e w5 ⟨rfl,h5⟩
              have hb5:Below w4.heap.size w4 w5:=by rw[h5];exact(Zj (Below.refl _ w4) nq).alloc (Nat.le_refl _) _
              have hc6:=HC5.out.below hb5
              obtain⟨-,-,⟨gz0,gz1⟩,-⟩:=hc6.cells
              obtain⟨⟨gf0,gf1⟩,-⟩:=hc6.frozen
              have HB6:=hid (HB5.out.trans (hb5.mono HB5.out.size))
              clear h5 hb5 hc6)
 refine bodyPost_ret (v:=.tuple #[.int .i64 0,Zi n2 9]) (by simp[results,Tryz.results80,go_sem, *]) rfl ?_
 exact⟨rfl,(HB6.out.setCell (p:=⟨w.heap.size+1+1,0,none⟩) (by show w.heap.size≤w.heap.size+1+1;omega) _).setCell (p:=⟨w.heap.size+1+1,1,none⟩) (by show w.heap.size≤w.heap.size+1+1;omega) _⟩
end
end
section
open Go.RowKit
def cmpB:Bool→Bool→Int
 | true,_=>-1
 | false,true=>1
 | false,false=>0
section
variable {w:World} {F:Nat→Prop} {bd bn cap:Nat} {rn:List RN} {rv:Value} {s:List Nd} {rs:List Sp}
theorem Zfs (wf:WF s) {h:Nat→Nat} {B:Nat} (u:Up s h B) (hD:Zf w F bd bn cap rn rv s rs) (n k n2 k2:Nat) (tf:Nat→Nat) (htf:∀ m,m < s.length→Zm s m (tf m)) (hn:n < s.length) (hn2:n2 < s.length) (hf:Zs s n k=(0,0)) (hg:Zs s n2 k2=(0,0)) (he:tf n=tf n2)
 (qa qb:Int) (ha:ZJ (plF s (B+1) (tf n)) (n,k) qa) (hb:ZJ (plF s (B+1) (tf n)) (n2,k2) qb) (x y:Bool) (hx:decide (qa<qb)=x) (hy:decide (qb<qa)=y) :
 Calls Tryz.prog 80 #[.pointer (some ⟨bd,0,none⟩),.agg #[.int .i64 n,.int .i64 k],.agg #[.int .i64 n2,.int .i64 k2]] w fun e w'=>e=.returned (.tuple #[.int .i64 (cmpB x y),Zi 0 0])∧Below w.heap.size w w':=by
 have CA:=hid (fun w' (hB:Below w.heap.size w w')=>X3 wf u (hD.below hB) hn (htf n hn) ha hb)
 have CB:=hid (fun w' (hB:Below w.heap.size w w')=>X3 wf u (hD.below hB) hn2 (htf n2 hn2) (by rw[← he];exact hb) (by rw[← he];exact ha))
 rw[hx] at CA
 rw[hy] at CB
 have CF:=hid (Yy (hD.below (XZ w n k n2 k2)) n k)
 rw[hf] at CF
 have CG:=hid (fun w' (hb:Below w.heap.size w w')=>Yy (hD.below hb) n2 k2)
 rw[hg] at CG
 have CT:=hid (fun w' (hb:Below w.heap.size w w') m (hm:m<s.length) q=>XA (w:=w'.drewN q) wf (hD.below (Zj hb q)) (htf m hm) hm)
 have heI:((tf n:Int) != (tf n2:Int))=false:=by simp[he]
 clear hD wf htf u ha hb hx hy
 go_enter Tryz.func80,Tryz.ntmps80
 go_wp2_with (first
  | (go_at_call 127;refine(CG.out w2 HB2.out).mono ?_;rintro e w3 ⟨rfl,hb3⟩
     have hc3:=HC2.out.below hb3
     obtain⟨-,-,-,⟨cf0,cf1⟩⟩:=hc3.cells
     obtain⟨-,⟨ff0,ff1⟩⟩:=hc3.frozen
     have HC3:=hid hc3
     have HB3:=hid (HB2.out.trans (hb3.mono HB2.out.size))
     clear hc3 hb3)
  | (go_at_call 127;refine CF.out.mono ?_;rintro e w1 ⟨rfl,hb1⟩
     have HB1:=hid hb1
     clear hb1)
  | (go_at_call 124;have hc4:=HC3.out.put 0 0;refine(Zy 0 0 _).mono ?_;rintro e w4 ⟨rfl,hb4⟩
     have hc5:=hc4.below hb4
     obtain⟨⟨da0,da1⟩,⟨db0,db1⟩,⟨cz0,cz1⟩,⟨cg0,cg1⟩⟩:=hc5.cells
     obtain⟨⟨fz0,fz1⟩,-⟩:=hc5.frozen
     have HC5:=hid hc5
     have HB5:=hid (((HB3.out.setCell (p:=⟨w1.heap.size,0,none⟩) (by have:=HC3.out.gt;show w.heap.size≤w1.heap.size;omega) (.int .i64 0)).setCell (p:=⟨w1.heap.size,1,none⟩) (by have:=HC3.out.gt;show w.heap.size≤w1.heap.size;omega) (.int .i64 0)).trans (hb4.mono (by have:=HB3.out.size;simpa using this)))
     clear hc4 hc5 hb4)
  | (go_at_call 124;refine(Zy 0 0 _).mono ?_;rintro e w2 ⟨rfl,hb2⟩
     obtain⟨hc2,hB2⟩:=Cmp.first HB1.out hb2
     obtain⟨⟨ca0,ca1⟩,⟨cb0,cb1⟩,-,-⟩:=hc2.cells
     have HC2:=hid hc2
     have HB2:=hid hB2
     clear hb2 hc2 hB2))
 go_quiet ((go_at_call 128;exact Calls.quiet_of_same (CT.out w4 HB5.out _ (by first|exact hn|exact hn2) _)))
 have HB5q:=hid (Zj HB5.out nq)
 have HC5q:=hid (HC5.out.below (Zj (Below.refl _ w4) nq))
 clear HB5
 cases x <;> cases y
 all_goals
  go_wp2_with (first
   | (go_at_call 129;refine(CB.out w6 HB6.out).mono ?_;rintro e w7 ⟨rfl,hb7⟩
      have hc7:=HC6.out.below hb7
      obtain⟨-,-,⟨kz0,kz1⟩,-⟩:=hc7.cells
      obtain⟨⟨kf0,kf1⟩,-⟩:=hc7.frozen
      have HB7:=hid (HB6.out.trans (hb7.mono HB6.out.size))
      clear hb7 hc7)
   | (go_at_call 129;refine(CA.out _ HB5q.out).mono ?_;rintro e w6 ⟨rfl,hb6⟩
      have hc6:=HC5q.out.below hb6
      obtain⟨⟨ga0,ga1⟩,⟨gb0,gb1⟩,-,-⟩:=hc6.cells
      have HC6:=hid hc6
      have HB6:=hid (HB5q.out.trans (hb6.mono HB5q.out.size))
      clear hb6 hc6))
  first
   | (refine bodyPost_ret (v:=.tuple #[.int .i64 0,Zi 0 0]) (by simp[results,Tryz.results80,go_sem, *]) rfl ?_;exact⟨rfl,(HB7.out.setCell (p:=⟨w.heap.size+1+1,0,none⟩) (by show w.heap.size≤w.heap.size+1+1;omega) _).setCell (p:=⟨w.heap.size+1+1,1,none⟩) (by show w.heap.size≤w.heap.size+1+1;omega) _⟩)
   | (refine bodyPost_ret (v:=.tuple #[.int .i64 1,Zi 0 0]) (by simp[results,Tryz.results80,go_sem, *]) rfl ?_;exact⟨rfl,(HB7.out.setCell (p:=⟨w.heap.size+1+1,0,none⟩) (by show w.heap.size≤w.heap.size+1+1;omega) _).setCell (p:=⟨w.heap.size+1+1,1,none⟩) (by show w.heap.size≤w.heap.size+1+1;omega) _⟩)
   | (refine bodyPost_ret (v:=.tuple #[.int .i64 (-1),Zi 0 0]) (by simp[results,Tryz.results80,go_sem, *]) rfl ?_;exact⟨rfl,(HB7.out.setCell (p:=⟨w.heap.size+1+1,0,none⟩) (by show w.heap.size≤w.heap.size+1+1;omega) _).setCell (p:=⟨w.heap.size+1+1,1,none⟩) (by show w.heap.size≤w.heap.size+1+1;omega) _⟩)
end
end
section
open Go.RowKit
theorem Tryz.rt : (Tryz.prog.cutTypes.find? (·.1 == "internal/reflectlite.rtype")).map (·.2) = some 149 := by kernel_rfl
theorem Tryz.oneRow:((List.range Tryz.prog.types.size).filter fun t=>Tryz.prog.rowNamed t [101,114,114,111,114])=[29]:=by kernel_rfl
theorem Tryz.hdl:typeHandle Tryz.prog 29=.pointer (some ⟨7,29,none⟩):=by kernel_rfl
theorem ZfW {W:World} (h:laidMetH Tryz.prog Rows.treesUptoRow.laid W):Glob W:=by
 have h':=(laidMetH_iff.1 h).2
 obtain ⟨name, u, ty, e1, e2, e3, e4, e5⟩ := h' ("errors.errorType", Rows.laid_errors_errorType) (List.mem_filter.2 ⟨.tail _ (.tail _ (.tail _ (.tail _ (.head _)))), rfl⟩)
 have en:name=[101,114,114,111,114]:=(Option.some.inj e1).symm
 subst en
 obtain rfl:=Option.some.inj (Tryz.rt.symm.trans e2)
 have hm:ty∈(List.range Tryz.prog.types.size).filter fun t=>Tryz.prog.rowNamed t [101,114,114,111,114]:=List.mem_filter.2 ⟨List.mem_range.2 e3,e4⟩
 rw[Tryz.oneRow] at hm
 obtain rfl:=List.mem_singleton.1 hm
 rw[Tryz.hdl] at e5
 unfold Glob
 simpa using World.var?_cell Tryz.et e5 0
theorem Zim {W:World} (h:laidMetH Tryz.prog Rows.treesUptoRow.laid W):Tabs W:=by
 have h':=(laidMetH_iff.1 h).1
 have r3 := Lib.laidMet.reads h' (n := "unicode/utf8.first") (d := Rows.laid_unicode_utf8_first) (List.mem_filter.2 ⟨.tail _ (.tail _ (.tail _ (.tail _ (.tail _ (.head _))))), rfl⟩)
 have r4 := Lib.laidMet.reads h' (n := "unicode/utf8.acceptRanges") (d := Rows.laid_unicode_utf8_acceptRanges) (List.mem_filter.2 ⟨.tail _ (.tail _ (.tail _ (.head _))), rfl⟩)
 exact utf8Tabs_of_readsT (U8Types.of260 Tryz.lays260) ⟨by kernel_rfl,by kernel_rfl,by kernel_rfl,by kernel_rfl,by kernel_rfl,by kernel_rfl,by kernel_rfl⟩
  (by rw[show Lib.firstData=Rows.laid_unicode_utf8_first from Pinned.utf8First_eq.symm];exact r3) (by rw[show Lib.acceptData=Rows.laid_unicode_utf8_acceptRanges from by kernel_rfl];exact r4)
theorem ZfU (W:World) (h:laidMetH Tryz.prog Rows.treesUptoRow.laid W):GG W:=⟨ZfW h,Zim h⟩
end
section
open Go
theorem J8 {listed:Array Bool} {j:Nat} (h:listed.getD j true=false):listed.getD j false=false:=by
 rcases Nat.lt_or_ge j listed.size with h'|h'
 · simp[h'] at h ⊢;exact h
 · simp[Array.getElem?_eq_none h'] at h
section
variable {P:Program} {md:Region.Mode} {ops:Array Oper} {C:World→Prop}
def Zaa (P:Program) (md:Region.Mode) (ops:Array Oper) (C:World→Prop) (Q:Act→Prop) (z:Nat):Nat→Array Bool→Act→Prop
 | 0,listed,a=>(∀ k,k<ops.size→k≠z→listed.getD k false=true)∧listed.getD z true=false∧Q a
 | fuel+1,listed,a=>Region.ready md ops listed≠[]∧z∉Region.ready md ops listed∧∀ i∈Region.ready md ops listed,qOp P ops C i (Zaa P md ops C Q z fuel (listed.setIfInBounds i true)) a
def Jw (md:Region.Mode) (ops:Array Oper) (listed:Array Bool):Prop:=∀ (k:Nat) (ok:Oper),ops[k]?=some ok→listed.getD k false=true→∀ e∈ok.after,Region.binds md e=true→listed.getD e.on false=true
theorem Jw.set {listed:Array Bool} {j:Nat} (h:Jw md ops listed) (hj:j∈Region.ready md ops listed):Jw md ops (listed.setIfInBounds j true):=by
 intro k ok hk hl e he hb
 obtain⟨_,oj,hoj,hall⟩:=mem_ready.1 hj
 by_cases hkj:j=k
 · subst hkj
   rw[hoj] at hk
   cases hk
   exact getD_set_true (hall e he hb)
 · rw[getD_set_ne false hkj] at hl
   exact getD_set_true (h k ok hk hl e he hb)
theorem Zje {Q:Act→Prop} {i z:Nat} {oi:Oper} {v:Value} (hi:ops[i]?=some oi) (hiz:i≠z) (hsel:∀ (j:Nat) (o:Oper) cs b,ops[j]?=some o→o.op≠.select cs b)
 (hdep:∃ (j:Nat) (oj:Oper),ops[j]?=some oj∧∃ e∈oj.after,Region.binds md e=true∧e.on=i) :
 ∀ (fuel:Nat) (listed:Array Bool) (a:Act),
  (∀ j oj,ops[j]?=some oj→j≠i→listed.getD j true=false→(∀ e∈oj.after,Region.binds md e=true→e.on≠i)→oi.apart ops oj=true) →
  i∈Region.ready md ops listed→Jw md ops listed→YieldsIn P ops C oi v a →
  Zaa P md ops C Q z fuel (listed.setIfInBounds i true) (a.put oi.dst v)→Zaa P md ops C Q z (fuel+1) listed a:=by
 intro fuel
 induction fuel with
 | zero =>
   intro listed a _ hr hcl hy H
   obtain⟨hun,_,_,hri⟩:=mem_ready.1 hr
   have hun':=J8 hun
   have hnz:z∉Region.ready md ops listed:=by
    intro hz
    obtain⟨j,oj,hoj,e,he,hb,heq⟩:=hdep
    by_cases hjz:j=z
    · subst hjz
      obtain⟨_,oz,hoz,hall⟩:=mem_ready.1 hz
      rw[hoj] at hoz
      cases hoz
      have:=hall e he hb
      rw[heq,hun'] at this
      cases this
    · have hjl:=H.1 j (Array.getElem?_eq_some_iff.1 hoj).1 hjz
      by_cases hji:j=i
      · subst hji
        obtain⟨_,o2,ho2,hall⟩:=mem_ready.1 hr
        rw[hoj] at ho2
        cases ho2
        have:=hall e he hb
        rw[heq,hun'] at this
        cases this
      · rw[getD_set_ne false (Ne.symm hji)] at hjl
        have:=hcl j oj hoj hjl e he hb
        rw[heq,hun'] at this
        cases this
   refine⟨fun h=>(by rw[h] at hr;cases hr),hnz,fun j hj=>?_⟩
   by_cases hji:j=i
   · subst hji;exact hy.qOp hi H
   · exfalso
     obtain⟨hjun,oj,hoj,_⟩:=mem_ready.1 hj
     have hjl:=H.1 j (Array.getElem?_eq_some_iff.1 hoj).1 (fun e=>hnz (e ▸ hj))
     rw[getD_set_ne false (Ne.symm hji),J8 hjun] at hjl
     cases hjl
 | succ fuel ih =>
   intro listed a hfree hr hcl hy H
   refine⟨fun h=>(by rw[h] at hr;cases hr),fun hz=>H.2.1 (ready_mono hz (Ne.symm hiz)),fun j hj=>?_⟩
   by_cases hji:j=i
   · subst hji;exact hy.qOp hi H
   · have h1:=H.2.2 j (ready_mono hj hji)
     obtain⟨hjun,oj,hoj,hall⟩:=mem_ready.1 hj
     have hnot:∀ e∈oj.after,Region.binds md e=true→e.on≠i:=fun e he hb heq=>by
      have h1:=hall e he hb
      rw[heq,J8 (mem_ready.1 hr).1] at h1
      cases h1
     have h2:=qOp_put hoj (hfree j oj hoj hji hjun hnot) (fun cs b=>hsel i oi cs b hi) (fun cs b=>hsel j oj cs b hoj) hy h1
     have hfree':∀ k ok,ops[k]?=some ok→k≠i→(listed.setIfInBounds j true).getD k true=false →
      (∀ e∈ok.after,Region.binds md e=true→e.on≠i)→oi.apart ops ok=true:=fun k ok hk hki hunk hno=>by
      refine hfree k ok hk hki ?_ hno
      by_cases hjk:j=k
      · subst hjk;exact hjun
      · rw[getD_set_ne true hjk] at hunk;exact hunk
     refine qOp_mono (fun a' h3=>ih (listed.setIfInBounds j true) a' hfree' (ready_mono hr (Ne.symm hji)) (hcl.set hj) h3.1 ?_) h2
     rw[Array.setIfInBounds_comm _ _ hji]
     exact h3.2
theorem ZeQ {Q:Act→Prop} {Q':Exit→Act→World→Prop} {z:Nat} {oz:Oper} (hoz:ops[z]?=some oz) (hza:∀ e∈oz.after,Region.binds md e=true→e.on < ops.size∧e.on≠z)
 (hQ:∀ a w,C w→Q a→wpOp P ops Q' z (fun a' w'=>Q' .normal a' w') a w):∀ (fuel:Nat) (listed:Array Bool) (a:Act) (w:World),C w →
 Zaa P md ops C Q z fuel listed a→wpAny P md ops Q' (fuel+1) listed a w
 | 0,listed,a,w,hw,h=>by
   obtain⟨hall,hzu,hq⟩:=h
   have hzr:z∈Region.ready md ops listed:=mem_ready.2 ⟨hzu,oz,hoz,fun e he hb=>hall e.on (hza e he hb).1 (hza e he hb).2⟩
   refine⟨fun h0=>(by rw[h0] at hzr;cases hzr),fun i hi=>?_⟩
   obtain⟨hiu,oi,hoi,_⟩:=mem_ready.1 hi
   have hiz:i=z:=by
    rcases Nat.decEq i z with h|h
    · have:=hall i (Array.getElem?_eq_some_iff.1 hoi).1 h
      rw[J8 hiu] at this
      cases this
    · exact h
   subst hiz
   refine wpOp_mono (fun a' w' h=>⟨List.eq_nil_iff_forall_not_mem.2 (fun j hj=>?_),h⟩) (hQ a w hw hq)
   obtain⟨hju,oj,hoj,_⟩:=mem_ready.1 hj
   by_cases hji:i=j
   · subst hji
     rcases Nat.lt_or_ge i listed.size with h'|h'
     · simp[h'] at hju
     · simp[Array.getElem?_eq_none h'] at hzu
   · rw[getD_set_ne true hji] at hju
     have:=hall j (Array.getElem?_eq_some_iff.1 hoj).1 (Ne.symm hji)
     rw[J8 hju] at this
     cases this
 | fuel+1,listed,a,w,hw,h=>⟨fun h0=>absurd h0 h.1,fun i hi=>wpOp_of_qOp hw (fun a' w' hw'=>ZeQ hoz hza hQ fuel _ a' w' hw') (h.2.2 i hi)⟩
def lexL (md:Region.Mode) (ops:Array Oper):Nat→Nat→Array Bool→Bool
 | 0,_,_=>true
 | n+1,k,listed=>(Region.ready md ops listed).contains k && Region.free md ops listed k && lexL md ops n (k+1) (listed.setIfInBounds k true)
def depB (md:Region.Mode) (ops:Array Oper) (n:Nat):Bool:=(List.range n).all fun i=>ops.any fun o=>o.after.any fun e=>Region.binds md e && e.on == i
theorem depB_at {n:Nat} (h:depB md ops n=true) {i:Nat} (hi:i < n):∃ (j:Nat) (oj:Oper),ops[j]?=some oj∧∃ e∈oj.after,Region.binds md e=true∧e.on=i:=by
 have h1:=List.all_eq_true.1 h i (List.mem_range.2 hi)
 obtain⟨o,ho,h2⟩:=Array.any_eq_true'.1 h1
 obtain⟨e,he,hb⟩:=Array.any_eq_true'.1 h2
 simp only[Bool.and_eq_true,beq_iff_eq] at hb
 obtain⟨j,hj⟩:=Array.getElem?_of_mem ho
 exact⟨j,o,hj,e,he,hb.1,hb.2⟩
theorem ZeP {Q:Act→Prop} {z:Nat} (hs:Region.noSelect ops=true) (hd:depB md ops z=true) (hz:z+1=ops.size):∀ (l:List Oper) (k:Nat) (listed:Array Bool) (a:Act),(∀ j,j < l.length→l[j]?=ops[k+j]?)→k+l.length=z →
 (∀ m,m<k→listed.getD m false=true)→listed.getD z true=false→Jw md ops listed →
 lexL md ops l.length k listed=true→wpQuiet P ops C Q l a→Zaa P md ops C Q z l.length listed a
 | [],k,listed,a,_,hk,hb,hzu,_,_,h=>⟨fun m hm hne=>hb m (by simp at hk;omega),hzu,h⟩
 | o::l,k,listed,a,hl,hk,hb,hzu,hcl,hB,h=>by
   have h0:ops[k]?=some o:=by simpa using (hl 0 (by simp)).symm
   simp only[List.length_cons,lexL,Bool.and_eq_true] at hB
   obtain⟨⟨hr,hf⟩,hB'⟩:=hB
   have hr':k∈Region.ready md ops listed:=by simpa using hr
   have hkz:k≠z:=by simp at hk;omega
   have hst:qOp P ops C k (wpQuiet P ops C Q l) a:=by unfold qOp;simp only[h0];exact h
   obtain⟨v,hy,hK⟩:=yieldsIn_of_qOp h0 hst
   refine Zje h0 hkz (Region.noSelect_spec hs) (depB_at hd (by simp at hk;omega)) l.length listed a (Region.free_spec h0 hf) hr' hcl hy
    (ZeP hs hd hz l (k+1) _ _ (fun j hj=>by have:=hl (j+1) (by simp;omega);simpa[Nat.add_assoc,Nat.add_comm 1 j] using this) (by simp at hk;omega) (fun m hm=>?_) (by rw[getD_set_ne true hkz];exact hzu) (hcl.set hr') hB' hK)
   by_cases hmk:k=m
   · subst hmk
     have:=(mem_ready.1 hr').1
     rcases Nat.lt_or_ge k listed.size with h'|h'
     · simp[h']
     · simp[Array.getElem?_eq_none h'] at this
   · exact getD_set_true (hb m (by omega))
def lastB (l:List Oper) (oz:Oper):Bool:=Region.noSelect l.toArray && depB .any l.toArray (l.length - 1) && lexL .any l.toArray (l.length - 1) 0 (Array.replicate l.length false) && oz.after.all fun e=>!Region.binds .any e || (e.on < l.length && e.on != l.length - 1)
theorem ZeS {id:Nat} {Q:Exit→Act→World→Prop} {a:Act} {w:World} {l:List Oper} {oz:Oper} (hl:l.getLast?=some oz) (hm:P.follows .mixedOrders=true) (hB:lastB l oz=true)
 (h:wpQuiet P l.toArray (fun w'=>∃ n,w'=w.drewN n) (fun a'=>∀ w',(∃ n,w'=w.drewN n)→wpList P l.toArray Q [oz] a' w') l.dropLast a):(Code.region id l.toArray true).wp P Q a w:=by
 simp only[lastB,Bool.and_eq_true] at hB
 obtain⟨⟨⟨hs,hd⟩,hx⟩,haz⟩:=hB
 have hne:l≠[]:=fun e=>by rw[e] at hl;cases hl
 have hlen:0<l.length:=List.length_pos_iff.2 hne
 have hoz:l.toArray[l.length - 1]?=some oz:=by rw[List.getElem?_toArray,← List.getLast?_eq_getElem?];exact hl
 refine wp_region_any hm ?_
 have hsz:l.toArray.size=(l.length - 1)+1:=by simp;omega
 rw[hsz]
 refine ZeQ (C:=fun w'=>∃ n,w'=w.drewN n) (Q:=fun a'=>∀ w',(∃ n,w'=w.drewN n)→wpList P l.toArray Q [oz] a' w') hoz ?_ ?_ _ _ _ _ ⟨1,rfl⟩ ?_
 · intro e he hb
   have:=Array.all_eq_true_iff_forall_mem.1 haz e he
   simp[hb] at this
   exact⟨by simpa using this.1,this.2⟩
 · intro a w1 hw hq
   unfold wpOp
   rw[hoz]
   exact hq w1 hw
 · have hk:=ZeP (P:=P) (C:=fun w'=>∃ n,w'=w.drewN n) (md:=.any) (ops:=l.toArray) (z:=l.length - 1) (Q:=fun a'=>∀ w',(∃ n,w'=w.drewN n)→wpList P l.toArray Q [oz] a' w') hs hd (by simp;omega) l.dropLast 0 (Array.replicate l.length false) a (fun j hj=>?_) (by simp) (fun m hm=>by omega) (by simp[Array.getElem?_replicate,show l.length - 1<l.length by omega]) (fun k ok hk hl2=>by
    exfalso
    rcases Nat.lt_or_ge k l.length with h'|h'
    · simp[h'] at hl2
    · simp[h'] at hl2) (by simpa using hx) h
   have e1:Array.replicate (l.length - 1+1) false=Array.replicate l.length false:=by rw[Nat.sub_add_cancel hlen]
   rw[e1]
   simpa using hk
   · rw[List.length_dropLast] at hj
     rw[List.getElem?_toArray,Nat.zero_add,List.getElem?_dropLast,if_pos hj]
end
end
end Go.Proofs.YtabogkonklplcaaGreatDoor
