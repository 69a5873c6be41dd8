import Derived.Test.YtabogkonklplcaaGreatDoorJ18
import Derived.Test.YtabogkonklplcaaGreatDoorCards
import Derived.Test.YtabogkonklplcaaGreatDoorTie
import Derived.ProofKit
import Derived.OpenShut
import Derived.Deep.DeepHandedRow
import Derived.Deep.Slices
import Derived.Lib.LaidTab
import Derived.LaidMore
import Derived.LaidHandle
import Derived.Deep.DeepWitnessRowRef
import Derived.Carry
import Derived.PinnedBridge
namespace Go.Proofs.YtabogkonklplcaaGreatDoor
set_option linter.unusedSimpArgs false
set_option linter.unusedVariables false
set_option maxRecDepth 20000
set_option maxHeartbeats 8000000
section
open Go.ChangeShapes Go.WideShapes Go.ChangeAt Go.RowKit Go.Deep
theorem Tryz.cells39:Tryz.prog.cellsOf 39=10:=by kernel_rfl
theorem Tryz.cells37:Tryz.prog.cellsOf 37=2:=by kernel_rfl
theorem Tryz.cells3:Tryz.prog.cellsOf 3=1:=by kernel_rfl
theorem Tryz.cells9:Tryz.prog.cellsOf 9=1:=by kernel_rfl
theorem wf_i64 {n:Int} (h:(Lit.int .i64 n).wf=true):-9223372036854775808≤n∧n≤9223372036854775807:=by
 simpa[Lit.wf,IntKind.min,IntKind.max,IntKind.signed,IntKind.bits] using h
section
variable {H:Type} {enc:TypeId × Value→H} {w:World} {sp:Nat→Bool} {held:Bool}
theorem ZdY {n:Nat} {c0 c1:Value} {x:DataW H × List MemPlace} (h:DataW.trod enc Tryz.prog w 0 sp held n 37 [c0,c1]=some x):∃ a b:Int,c0=.int .i64 a∧c1=.int .i64 b:=by
 obtain⟨xs,m,rfl,rfl,hl,hxl,hf⟩:=DataW.trod_struct Tryz.underlying37 h
 match xs,hxl with
 | [y0,y1],_ =>
   have h0:=hf 0 _ rfl
   have h1:=hf 1 _ rfl
   simp[Tryz.cells3] at h0 h1
   obtain⟨a,ha,_⟩:=DataW.trod_int Tryz.underlying3 h0
   obtain⟨b,hb,_⟩:=DataW.trod_int Tryz.underlying3 h1
   exact⟨a,b,by simpa using ha,by simpa using hb⟩
theorem op_open {n:Nat} {cs:List Value} {x:DataW H × List MemPlace} (h:DataW.trod enc Tryz.prog w 0 sp held n 39 cs=some x) :
 ∃ o:OpR,cs=o.cells∧-9223372036854775808≤o.D∧o.D≤9223372036854775807∧o.S.size≤Rows.uptoBulk x.1:=by
 obtain⟨xs,m,rfl,rfl,hl,hxl,hf⟩:=DataW.trod_struct Tryz.underlying39 h
 rw[Tryz.cells39] at hl
 match cs,hl with
 | [c0,c1,c2,c3,c4,c5,c6,c7,c8,c9],_ =>
   match xs,hxl with
   | [y0,y1,y2,y3,y4,y5,y6,y7],_ =>
     have h0:=hf 0 _ rfl
     have h1:=hf 1 _ rfl
     have h2:=hf 2 _ rfl
     have h3:=hf 3 _ rfl
     have h4:=hf 4 _ rfl
     have h5:=hf 5 _ rfl
     have h6:=hf 6 _ rfl
     have h7:=hf 7 _ rfl
     simp[Tryz.cells3,Tryz.cells9,Tryz.cells37] at h0 h1 h2 h3 h4 h5 h6 h7
     obtain⟨k0,e0,_⟩:=DataW.trod_int Tryz.underlying3 h0
     obtain⟨k1,e1,_,w1⟩:=DataW.trod_int Tryz.underlying3 h1
     obtain⟨k2,e2,_⟩:=DataW.trod_int Tryz.underlying3 h2
     obtain⟨k3,e3,_⟩:=DataW.trod_int Tryz.underlying3 h3
     obtain⟨k4,e4,_⟩:=DataW.trod_int Tryz.underlying3 h4
     obtain⟨s5,e5,hy5,_⟩:=DataW.trod_string Tryz.underlying9 h5
     obtain⟨p0,p1,e6,e7⟩:=ZdY h6
     obtain⟨q0,q1,e8,e9⟩:=ZdY h7
     have hw:=wf_i64 w1
     refine⟨⟨k0,k1,k2,k3,k4,s5,p0,p1,q0,q1⟩,?_,hw.1,hw.2,?_⟩
     · simp at e0 e1 e2 e3 e4 e5
       subst e0 e1 e2 e3 e4 e5 e6 e7 e8 e9
       rfl
     · rw[hy5]
       simp only[List.map_cons,List.map_nil,Rows.uptoBulk,Rows.uptoBulkAll,Array.length_toList]
       show s5.size≤_
       have:s5.data.size=s5.size:=rfl
       omega
theorem Ze8 {l:List (DataW H)} {d:DataW H} (h:d∈l):Rows.uptoBulk d≤Rows.uptoBulkAll l:=by
 induction l with
 | nil=>simp at h
 | cons a l ih =>
   simp only[Rows.uptoBulkAll]
   rcases List.mem_cons.1 h with rfl|h
   · omega
   · have:=ih h;omega
theorem bulk_pos (d:DataW H):1≤Rows.uptoBulk d:=by
 cases d with
 | lit l=>cases l <;> simp[Rows.uptoBulk]
 | nil=>simp[Rows.uptoBulk]
 | ptr d=>simp[Rows.uptoBulk]
 | slice a b=>simp[Rows.uptoBulk]
 | agg l=>simp[Rows.uptoBulk]
 | iface n d=>simp[Rows.uptoBulk]
 | map l=>simp[Rows.uptoBulk]
 | held h=>simp[Rows.uptoBulk]
theorem Ze7 (l:List (DataW H)):l.length≤Rows.uptoBulkAll l:=by
 induction l with
 | nil=>simp
 | cons a l ih =>
   have:=bulk_pos a
   simp only[Rows.uptoBulkAll,List.length_cons]
   omega
theorem ZhR {n:Nat} {v:Value} {x:DataW H × List MemPlace} (h:DataW.trod enc Tryz.prog w 0 sp held n 22 [v]=some x) (hb:Rows.uptoBulk x.1≤1048576) :
 ∃ (a:Option Addr) (g off c:Nat) (script:List OpR),v=.slice a script.length c∧(0<script.length→a=some ⟨g,off,none⟩)∧Zad w g off script∧(∀ o∈script,OpOk o)∧script.length+6<lots∧(0<script.length→g<w.heap.size):=by
 rcases open_slice Tryz.underlying22 h with ⟨hcs,rfl⟩|⟨a,len,cap,m,k,D,Pl,hcs,_,hl,hm,hm2,rfl,hel⟩
 · obtain rfl:v=.slice none 0 0:=by simpa using hcs
   exact⟨none,0,0,0,[],rfl,by simp,fun i o ho=>by simp at ho,by simp,by unfold lots;simp,by simp⟩
 · obtain rfl:v=.slice (some a) len cap:=by simpa using hcs
   have hlm:len≤m:=by rw[hm2];split <;> omega
   rw[Tryz.cells39] at hel
   have hlen:len≤1048576:=by
    have:=Ze7 ((List.range len).map D)
    simp only[Rows.uptoBulk] at hb
    simp at this
    omega
   have hex:∀ i,i<len→∃ o:OpR,w.cells? 0 (a.add (i*10)) 10=some o.cells∧OpOk o:=by
    intro i hi
    obtain⟨cs',h1,h2⟩:=hel i (by omega)
    obtain⟨o,rfl,d1,d2,hs⟩:=op_open h2
    refine⟨o,h1,d1,d2,?_⟩
    have h3:Rows.uptoBulk (D i)≤Rows.uptoBulkAll ((List.range len).map D):=Ze8 (List.mem_map.2 ⟨i,by simpa using hi,rfl⟩)
    simp only[Rows.uptoBulk] at hb
    simp only at hs
    unfold lots
    omega
   obtain⟨f,hf⟩:=@choose_lt OpR ⟨⟨0,0,0,0,0,⟨#[]⟩,0,0,0,0⟩⟩ len _ hex
   have hlen2:((List.range len).map f).length=len:=by simp
   have get:∀ (i:Nat) (o:OpR),((List.range len).map f)[i]?=some o→i<len∧o=f i:=by
    intro i o ho
    have hi:i<len:=by have:=(List.getElem?_eq_some_iff.1 ho).1;simpa using this
    rw[List.getElem?_map,List.getElem?_range hi] at ho
    exact⟨hi,by simpa using ho.symm⟩
   have spot:0<len→a.spot=none∧a.block<w.heap.size:=by
    intro h0
    obtain⟨_,h1,h2⟩:=World.cells?_some (hf 0 h0).1
    have h3:=h2 0 (by simp)
    have h4:((f 0).cells)[0]?=some (.int .i64 (f 0).kind):=rfl
    rw[h4] at h3
    have e:(a.add (0*10)).add 0=a:=by simp[Addr.add]
    rw[e] at h3
    unfold World.cell? at h3
    cases hh:w.heap[a.block]? with
    | none=>simp[hh] at h3
    | some ob =>
      refine⟨?_,(Array.getElem?_eq_some_iff.1 hh).1⟩
      cases ob with
      | cells c t fz =>
        simp only[hh] at h3
        cases hs:a.spot with
        | none=>rfl
        | some k=>simp[hs] at h3
      | _=>simp[hh] at h3
   have el:∀ o∈(List.range len).map f,OpOk o:=by
    intro o ho
    obtain⟨i,hi,rfl⟩:=List.mem_map.1 ho
    exact(hf i (by simpa using hi)).2
   refine⟨some a,a.block,a.off,cap,(List.range len).map f,by rw[hlen2],?_,?_,el,by rw[hlen2];unfold lots;omega,?_⟩
   · rw[hlen2]
     intro h0
     have:=(spot h0).1
     cases a
     simp_all
   · intro i o ho j u hj
     obtain⟨hi,rfl⟩:=get i o ho
     obtain⟨_,h1,h2⟩:=World.cells?_some (hf i hi).1
     have hj10:j<10:=(List.getElem?_eq_some_iff.1 hj).1
     have h3:=h2 j hj10
     rw[hj] at h3
     rw[← h3]
     have hsp:=(spot (by omega)).1
     congr 1
     cases a with
     | mk b o sp =>
       simp only at hsp
       subst hsp
       simp only[Addr.add]
       split <;> split <;> simp_all <;> omega
   · rw[hlen2]
     exact fun h0=>(spot h0).2
end
end
section
open Go.ChangeShapes Go.WideShapes Go.ChangeAt Go.RowKit Go.Deep
theorem Tryz.own:ownKnob Tryz.prog.godebug=none:=by kernel_rfl
theorem Tryz.laidOut':laidOutB Tryz.prog=true:=by kernel_rfl
theorem Tryz.et : Tryz.prog.globalNamed "errors.errorType" = some 0 := by kernel_rfl
noncomputable def ZaB (os:Os):World :=
 let w0:=World.doorLaid Tryz.prog 60 os
 { w0 with heap:=w0.heap.modify 1 fun
  | .cells _ t frozen=>.cells (Go.Pinned.utf8FirstZ.map fun n:Nat=>Value.int .u8 (Int.ofNat n)).toArray t frozen
  | o=>o }
set_option maxRecDepth 100000 in
theorem Zgf (os:Os) (args:Array Value):laidMetH Tryz.prog Rows.treesUptoRow.laid ((ZaB os).forCall (fun _ _=>0) ⟨#[],args,[]⟩).memory :=
 laidMetH_of_parts (laidMet_of_run' 8 (by kernel_rfl) (by kernel_rfl)) (by kernel_rfl)
end
end Go.Proofs.YtabogkonklplcaaGreatDoor
