import Derived.Test.YtabogkonklplcaaGreatDoorJ20
import Derived.Shelf.Spec.SlicesInsert
import Derived.Shelf.Spec.SlicesInsertGrow
import Derived.Test.YtabogkonklplcaaGreatDoorJ25
import Derived.LoopTactic
import Derived.Test.YtabogkonklplcaaGreatDoorJ27
import Derived.Test.YtabogkonklplcaaGreatDoorJ16
namespace Go.Proofs.YtabogkonklplcaaGreatDoor
set_option linter.unusedSimpArgs false
set_option linter.unusedVariables false
set_option maxRecDepth 20000
set_option maxHeartbeats 8000000
section
open Go.RowKit Go.Shelf
def Yw:Go.Shelf.Ren:=⟨fun | 21=>156 | 27=>182 | 28=>183 | 35=>194 | 39=>181 | n=>n,fun | 22=>24 | 3=>3 | 4=>4 | 0=>0 | n=>n,fun | n=>n⟩
theorem Zaz:Go.Proofs.Lays2.n21 Tryz.prog Yw:={
 mixed:=by kernel_rfl
 f21:=Tryz.func156.trans (congrArg some (by kernel_rfl))
 f27:=Tryz.func182.trans (congrArg some (by kernel_rfl))
 f28:=Tryz.func183.trans (congrArg some (by kernel_rfl))
 f35:=Tryz.func194.trans (congrArg some (by kernel_rfl))
 f39:=Tryz.func181.trans (congrArg some (by kernel_rfl))
 t0:=Tryz.underlying0
 a0:=Tryz.isAgg0
 z0:=Tryz.sizeOf0
 v0:=Tryz.zeroValue0
 t3:=Tryz.underlying3
 a3:=Tryz.isAgg3
 z3:=Tryz.sizeOf3
 v3:=Tryz.zeroValue3
 t4:=Tryz.underlying4
 a4:=Tryz.isAgg4
 z4:=Tryz.sizeOf4
 v4:=Tryz.zeroValue4
 t22:=Tryz.underlying24
 a22:=Tryz.isAgg24
 z22:=Tryz.sizeOf24
 v22:=Tryz.zeroValue24
 i3:=by kernel_rfl }
theorem ZeV (m:Nat):(Builtin.zeroCells (Value.int .i64 0).cells m).size=m:=by simp [Builtin.zeroCells,Value.cells]
def Xe (l:List Nat) (k j:Nat):List Nat:=l.take k++j::l.drop k
theorem J3 (l:List Nat) (k j:Nat) (h:k≤l.length):(Xe l k j).length=l.length+1:=by simp [Xe];omega
theorem ZaM (l:List Nat) (k j:Nat):Zg (Xe l k j)=(Zg l).take k++Value.int .i64 (j:Int)::(Zg l).drop k:=by simp [Zg,Xe,List.map_take,List.map_drop]
def Ju (v:Value) (ks:List Nat) (k j:Nat) (w:World) (e:Ending) (w':World):Prop :=
 ∃ g c,e=.returned (.slice (some ⟨g,0,none⟩) (ks.length+1) c)∧w'.ownsRow 0 3 1 (.slice (some ⟨g,0,none⟩) (ks.length+1) c) (ks.length+1) (Zg (Xe ks k j))∧Zb (fun b=>v.ownBlock=some b) w w'∧(v.ownBlock=some g∨w.heap.size≤g)
theorem Zdm (l:List Nat):∀ v∈Zg l,v.oneCell'=true:=by
 intro v hv
 simp only[Zg,List.mem_map] at hv
 obtain⟨a,_,rfl⟩:=hv
 rfl
section
variable {w:World} {vb:Nat}
theorem ZaK {j:Nat} (hvb:w.heap[vb]?=some (.cells #[.int .i64 (j:Int)] 3 (0,0))):∀ i v,[Value.int .i64 (j:Int)][i]?=some v→w.cell? ⟨vb,0+i,none⟩=some v:=by
 intro i v h
 cases i with
 | zero=>simp at h;subst h;exact Za hvb 0
 | succ i=>simp at h
theorem Zdk (base:Option Addr) (n c j:Nat) (ks:List Nat) (hvb:w.heap[vb]?=some (.cells #[.int .i64 (j:Int)] 3 (0,0))) (hn:ks.length=n) (hnc:n≤c) (hroom:c < n+1) (hbig:n < lots) (hnil:base=none→n=0)
 (hcs:∀ a,base=some a→∀ i v,(Zg ks)[i]?=some v→w.cell? (a.add i)=some v) :
 Calls Tryz.prog 156 #[.slice base n c,.int .i64 (n:Int),.slice (some ⟨vb,0,none⟩) 1 1] w (Ju (.slice base n c) ks n j w):=by
 have C:=Any2.slices_Insert_int_end_grow Zaz base n c vb 0 1 1 (Zg ks) [.int .i64 (j:Int)] w (by decide) hnc hroom (by unfold lots at hbig;omega) (by simp[hn]) rfl hnil hcs (ZaK hvb) (by simp[Value.oneCell'])
 refine C.mono ?_
 rintro e w' ⟨rfl,rfl⟩
 have hG:=grownCap_ge w (n+1) c (Yw.t 3)
 have hG2:=grownCap_le_maxLen w (n+1) c (Yw.t 3) (by unfold maxLen;unfold lots at hbig;omega)
 generalize grownCap w (n+1) c (Yw.t 3)=G at hG hG2
 refine⟨w.heap.size,G,by rw[hn],?_,((Zb.refl _ w).drew).alloc _,.inr (Nat.le_refl _)⟩
 refine⟨by rw[intsV_length,J3 _ _ _ (by omega)];omega,.inr ⟨w.heap.size,G,_,rfl,Nat.zero_le _,heap_alloc_new w.drew _,by omega,hG2,?_,?_⟩⟩
 · simp[ZeV,hn];omega
 · have:Zg (Xe ks n j)=Zg ks++[.int .i64 (j:Int)]:=by
    rw[ZaM,List.take_of_length_le (by simp[hn]),List.drop_of_length_le (by simp[hn])]
   rw[this]
   simp only[Array.toList_append,List.toList_toArray,Nat.mul_one]
   rw[List.take_append_of_le_length (by simp),List.take_of_length_le (by simp)]
theorem Zf4 (g n c j:Nat) (ks:List Nat) (cur:Array Value) (hvb:w.heap[vb]?=some (.cells #[.int .i64 (j:Int)] 3 (0,0))) (hn:ks.length=n) (hroom:n+1≤c) (hc:c≤maxLen) (hcur:w.heap[g]?=some (.cells cur 3 (0,0))) (hsz:cur.size=c) (ht:cur.toList.take n=Zg ks) :
 Calls Tryz.prog 156 #[.slice (some ⟨g,0,none⟩) n c,.int .i64 (n:Int),.slice (some ⟨vb,0,none⟩) 1 1] w (Ju (.slice (some ⟨g,0,none⟩) n c) ks n j w):=by
 have C:=Any2.slices_Insert_int_end_room Zaz g 0 n c vb 0 1 1 [.int .i64 (j:Int)] w (by decide) hroom (by unfold maxLen at hc;omega) rfl
  (fun i hi=>by rw[Za hcur,Array.getElem?_eq_getElem (by omega)];rfl) (fun i hi=>Zd hcur _) (ZaK hvb) (by simp[Value.oneCell'])
 refine C.mono ?_
 rintro e w' ⟨rfl,rfl⟩
 obtain⟨cur',h1,h2,h3⟩:=Xu g 3 [.int .i64 (j:Int)] n w cur hcur (by simp;omega)
 rw[Nat.zero_add]
 refine⟨g,c,by rw[hn],?_,Xv g _ _ _ (Zb.refl _ w) rfl,.inl rfl⟩
 refine⟨by rw[intsV_length,J3 _ _ _ (by omega)];omega,.inr ⟨g,c,cur',rfl,Nat.zero_le _,h1,by omega,hc,by omega,?_⟩⟩
 have:Zg (Xe ks n j)=Zg ks++[.int .i64 (j:Int)]:=by
  rw[ZaM,List.take_of_length_le (by simp[hn]),List.drop_of_length_le (by simp[hn])]
 rw[this,h3,ht,Nat.mul_one,hn,List.take_append_of_le_length (by simp[hn]),List.take_of_length_le (by simp[hn])]
theorem Zf5 (g n c k j:Nat) (ks:List Nat) (cur:Array Value) (hvb:w.heap[vb]?=some (.cells #[.int .i64 (j:Int)] 3 (0,0))) (hne:vb≠g) (hn:ks.length=n) (hk:k < n) (hroom:n+1≤c) (hc:c≤maxLen) (hcur:w.heap[g]?=some (.cells cur 3 (0,0))) (hsz:cur.size=c) (ht:cur.toList.take n=Zg ks) :
 Calls Tryz.prog 156 #[.slice (some ⟨g,0,none⟩) n c,.int .i64 (k:Int),.slice (some ⟨vb,0,none⟩) 1 1] w (Ju (.slice (some ⟨g,0,none⟩) n c) ks k j w):=by
 have hcs:∀ i v,(Zg ks)[i]?=some v→w.cell? ⟨g,0+i,none⟩=some v:=by
  intro i v hi
  have hil:=(List.getElem?_eq_some_iff.1 hi).1
  simp[hn] at hil
  rw[← ht,List.getElem?_take_of_lt hil] at hi
  rw[Za hcur,Nat.zero_add,← Array.getElem?_toList]
  exact hi
 have C:=Any2.slices_Insert_int_shift Zaz g 0 n c k vb 0 1 1 (Zg ks) [.int .i64 (j:Int)] w hk (by decide) hroom (by unfold maxLen at hc;omega) hne (by simp[hn]) rfl hcs
  (fun i hi=>by rw[Za hcur,Array.getElem?_eq_getElem (by omega)];rfl) (fun i hi=>Zd hcur _) (ZaK hvb) (Zdm ks) (by simp[Value.oneCell'])
  3 3 1 c (by simp[World.shape?,hvb]) (by simp[World.shape?,hcur,hsz]) (by omega) (Zd hvb _) (Zd hvb _)
 refine C.mono ?_
 rintro e w' ⟨rfl,rfl⟩
 have hdl:((Zg ks).drop k).length=n - k:=by simp[hn]
 obtain⟨cur1,h1,h2,h3⟩:=Xu g 3 ((Zg ks).drop k) (k+1) w.drew cur hcur (by omega)
 obtain⟨cur2,g1,g2,g3⟩:=Xu g 3 [.int .i64 (j:Int)] k _ cur1 h1 (by simp;omega)
 rw[Nat.zero_add,Nat.zero_add]
 refine⟨g,c,by rw[hn],?_,Xv g _ _ _ (Xv g _ _ _ ((Zb.refl _ w).drew) rfl) rfl,.inl rfl⟩
 refine⟨by rw[intsV_length,J3 _ _ _ (by omega)];omega,.inr ⟨g,c,cur2,rfl,Nat.zero_le _,g1,by omega,hc,by omega,?_⟩⟩
 have e1:cur.toList.take k=(Zg ks).take k:=by rw[← ht,List.take_take,Nat.min_eq_left (by omega)]
 have hcl:cur.toList.length=c:=by simp[hsz]
 have e2:cur1.toList.take k=(Zg ks).take k:=by
  rw[h3,List.append_assoc,List.take_append_of_le_length (by simp;omega),List.take_take,Nat.min_eq_left (by omega),e1]
 have e3:cur1.toList.drop (k+1)=(Zg ks).drop k++cur.toList.drop (k+1+((Zg ks).drop k).length):=by
  rw[h3,List.append_assoc,List.drop_left' (by rw[List.length_take];omega)]
 rw[g3,ZaM,e2,Nat.mul_one,hn]
 simp only[List.length_singleton]
 rw[e3,List.append_assoc,List.singleton_append]
 have hl:((Zg ks).take k++Value.int .i64 (j:Int)::(Zg ks).drop k).length=n+1:=by simp[hn];omega
 rw[← List.cons_append,← List.append_assoc,← hl,List.take_append_of_le_length (Nat.le_refl _),List.take_of_length_le (Nat.le_refl _)]
theorem ins_grow (g n c k j:Nat) (ks:List Nat) (cur:Array Value) (hvb:w.heap[vb]?=some (.cells #[.int .i64 (j:Int)] 3 (0,0))) (hn:ks.length=n) (hk:k < n) (hnc:n≤c) (hroom:c < n+1) (hbig:n < lots) (hcur:w.heap[g]?=some (.cells cur 3 (0,0))) (ht:cur.toList.take n=Zg ks) :
 Calls Tryz.prog 156 #[.slice (some ⟨g,0,none⟩) n c,.int .i64 (k:Int),.slice (some ⟨vb,0,none⟩) 1 1] w (Ju (.slice (some ⟨g,0,none⟩) n c) ks k j w):=by
 have hcs:∀ i v,(Zg ks)[i]?=some v→w.cell? ⟨g,0+i,none⟩=some v:=by
  intro i v hi
  have hil:=(List.getElem?_eq_some_iff.1 hi).1
  simp[hn] at hil
  rw[← ht,List.getElem?_take_of_lt hil] at hi
  rw[Za hcur,Nat.zero_add,← Array.getElem?_toList]
  exact hi
 have C:=Any2.slices_Insert_int_grow Zaz g 0 n c k vb 0 1 1 (Zg ks) [.int .i64 (j:Int)] w hk (by decide) hnc hroom (by unfold lots at hbig;omega) (by simp[hn]) rfl hcs (ZaK hvb) (Zdm ks) (by simp[Value.oneCell'])
 refine C.mono ?_
 rintro e w' ⟨rfl,rfl⟩
 have hG:=grownCap_ge w (n+1) c (Yw.t 3)
 have hG2:=grownCap_le_maxLen w (n+1) c (Yw.t 3) (by unfold maxLen;unfold lots at hbig;omega)
 generalize grownCap w (n+1) c (Yw.t 3)=G at hG hG2
 obtain⟨R,hR⟩:∃ R:Array Value,R=((Zg ks).take k).toArray++Builtin.zeroCells (Value.int .i64 0).cells (n+1 - k)++Builtin.zeroCells (Value.int .i64 0).cells (G - (n+1)):=⟨_,rfl⟩
 have hRs:R.size=G:=by rw[hR];simp[ZeV,hn];omega
 have hRt:R.toList.take k=(Zg ks).take k:=by
  rw[hR]
  simp only[Array.toList_append,List.toList_toArray,List.append_assoc]
  rw[List.take_append_of_le_length (by simp[hn];omega),List.take_take,Nat.min_self]
 rw[← hR]
 have h0:((w.alloc (.cells R (Yw.t 3))).drew).heap[w.heap.size]?=some (.cells R 3 (0,0)):=heap_alloc_new w _
 have hdl:((Zg ks).drop k).length=n - k:=by simp[hn]
 obtain⟨cur1,h1,h2,h3⟩:=Xu w.heap.size 3 [.int .i64 (j:Int)] k _ R h0 (by simp;omega)
 obtain⟨cur2,g1,g2,g3⟩:=Xu w.heap.size 3 ((Zg ks).drop k) (k+1) (((w.alloc (.cells R (Yw.t 3))).drew.setCells w.heap.size k [.int .i64 (j:Int)]).drew) cur1 h1 (by omega)
 have k1:Zb (fun b=>(Value.slice (some ⟨g,0,none⟩) n c).ownBlock=some b) w (((w.alloc (.cells R (Yw.t 3))).drew.setCells w.heap.size k [.int .i64 (j:Int)]).drew):=by
  have a1:Zb (fun _=>False) w ((w.alloc (.cells R (Yw.t 3))).drew):=((Zb.refl _ w).alloc _).drew
  have a2:Zb (fun b=>b=w.heap.size) ((w.alloc (.cells R (Yw.t 3))).drew) (((w.alloc (.cells R (Yw.t 3))).drew.setCells w.heap.size k [.int .i64 (j:Int)]).drew):=(Xv (F:=fun b=>b=w.heap.size) w.heap.size _ _ _ (Zb.refl _ _) rfl).drew
  exact(a1.trans (a2.mono (fun b _ e=>.inr (by omega)))).mono (fun _ _ e=>e.elim)
 have k2:Zb (fun b=>b=w.heap.size) (((w.alloc (.cells R (Yw.t 3))).drew.setCells w.heap.size k [.int .i64 (j:Int)]).drew) _:=Xv w.heap.size ((Zg ks).drop k) (k+1) _ (Zb.refl _ _) rfl
 refine⟨w.heap.size,G,by rw[hn],?_,k1.trans (k2.mono (fun b _ e=>.inr (by omega))),.inr (Nat.le_refl _)⟩
 refine⟨by rw[intsV_length,J3 _ _ _ (by omega)];omega,.inr ⟨w.heap.size,G,cur2,rfl,Nat.zero_le _,g1,by omega,hG2,by omega,?_⟩⟩
 have e2:cur1.toList.take (k+1)=(Zg ks).take k++[.int .i64 (j:Int)]:=by
  rw[h3,hRt,List.take_append_of_le_length (by simp[hn];omega),List.take_of_length_le (by simp[hn];omega)]
 rw[g3,ZaM,e2,Nat.mul_one,hn]
 have hl:((Zg ks).take k++[Value.int .i64 (j:Int)]++(Zg ks).drop k).length=n+1:=by simp[hn];omega
 rw[← hl,List.take_append_of_le_length (Nat.le_refl _),List.take_of_length_le (Nat.le_refl _)]
 simp
end
theorem ins_one {w:World} {vb:Nat} {v:Value} {ks:List Nat} (hrow:w.ownsRow 0 3 1 v ks.length (Zg ks)) (k j:Nat) (hk:k≤ks.length) (hbig:ks.length < lots) (hvb:w.heap[vb]?=some (.cells #[.int .i64 (j:Int)] 3 (0,0))) (hne:v.ownBlock≠some vb) :
 Calls Tryz.prog 156 #[v,.int .i64 (k:Int),.slice (some ⟨vb,0,none⟩) 1 1] w (Ju v ks k j w):=by
 obtain⟨h1,h2⟩:=hrow
 rcases h2 with ⟨hv,h0⟩|⟨g,cap,cur,hv,_,hh,hn,hc,hs,ht⟩
 · have:ks=[]:=List.eq_nil_of_length_eq_zero h0
   subst this
   subst hv
   obtain rfl:k=0:=by simpa using hk
   exact Zdk none 0 0 j [] hvb rfl (Nat.le_refl _) (by decide) (by unfold lots;decide) (fun _=>rfl) (fun a e=>by cases e)
 · subst hv
   simp only[Nat.mul_one] at hs ht
   have hg:vb≠g:=fun e=>hne (by simp[Value.ownBlock,e])
   have hcs:∀ i v,(Zg ks)[i]?=some v→w.cell? ⟨g,i,none⟩=some v:=by
    intro i v hi
    have hil:=(List.getElem?_eq_some_iff.1 hi).1
    simp at hil
    rw[← ht,List.getElem?_take_of_lt hil] at hi
    rw[Za hh,← Array.getElem?_toList]
    exact hi
   by_cases hr:ks.length+1≤cap
   · rcases Nat.lt_or_ge k ks.length with hkl|hkl
     · exact Zf5 g ks.length cap k j ks cur hvb hg rfl hkl hr hc hh hs ht
     · obtain rfl:k=ks.length:=by omega
       exact Zf4 g ks.length cap j ks cur hvb rfl hr hc hh hs ht
   · rcases Nat.lt_or_ge k ks.length with hkl|hkl
     · exact ins_grow g ks.length cap k j ks cur hvb rfl hkl hn (by omega) hbig hh ht
     · obtain rfl:k=ks.length:=by omega
       exact Zdk (some ⟨g,0,none⟩) ks.length cap j ks hvb rfl hn (by omega) hbig (fun e=>by cases e) (fun a e i v hi=>by cases e;rw[Addr.add_lit,Nat.zero_add];exact hcs i v hi)
end
section
open Go.RowKit
theorem YX {B b:Nat} {bs:List Value} {w:World} (h:BldU B b bs w):Bld B b bs w:=.inr h
def XF (w w':World):Prop:=∀ (k:Nat) (cur:Array Value) (e:TypeId) (fz:Nat × Nat),w.heap[k]?=some (.cells cur e fz)→w'.heap[k]?=some (.cells cur e fz)
theorem XF.alloc (w:World) (o:Obj):XF w (w.alloc o):=fun k cur e fz hk=>by rw [Below.heap_alloc _ _ _ (Zc hk)];exact hk
theorem XF.iterAt {w:World} {k:Nat} {t:ByteArray} {p:Nat} (hi:w.heap[k]?=some (.stringIter t p)) (q:Nat):XF w (w.iterAt k t q):=fun j cur e fz hj=>by
 have hne:j≠k:=fun e=>by subst e;rw[hi] at hj;cases hj
 rw[Lib.iterAt_other w k j t q hne];exact hj
theorem Zcy {B b:Nat} {bs:List Value} {w w':World} (h:BldU B b bs w) (hk:XF w w'):BldU B b bs w':=by
 obtain⟨hB,v,hb,ho,hne⟩:=h
 refine⟨hB,v,hk _ _ _ _ hb,⟨ho.1,?_⟩,hne⟩
 rcases ho.2 with h|⟨g,cap,cur,hv,hg,hh,rest⟩
 · exact .inl h
 · exact .inr ⟨g,cap,cur,hv,hg,hk _ _ _ _ hh,rest⟩
theorem Zis (acc c:ByteArray):Lib.strCells (Zx acc c)=(if isQ c then Lib.strCells acc++[.int .u8 92] else Lib.strCells acc)++Lib.strCells c:=by
 unfold Zx
 rw[Y4]
 split
 · rw[Y4];rfl
 · rfl
def QuoteInv (B b k:Nat) (w:World) (cs:List ByteArray) (acc:ByteArray) (wr:World):Prop :=
 ∃ l r,cs=l++r∧wr.heap[k]?=some (.stringIter (catB cs) (catB l).size)∧Below B w wr∧B≤wr.heap.size∧BldU B b (Lib.strCells (l.foldl Zx acc)) wr
theorem Zg4 {cs l r:List ByteArray} (h:cs=l++r) (hc:∀ c∈cs,IsCh c) (hp:¬ (catB l).size < (catB cs).size):l=cs:=by
 cases r with
 | nil=>simpa using h.symm
 | cons c r =>
   exfalso
   subst h
   obtain⟨R,_,_,_,h4,_⟩:=Zak l c r (hc c (by simp))
   exact hp h4
theorem Zg5 {cs l r:List ByteArray} (h:cs=l++r) (hc:∀ c∈cs,IsCh c) (hp:(catB l).size < (catB cs).size) :
 ∃ c r',r=c::r'∧∃ R:Nat,Utf8.decode (catB cs) (catB l).size=(R,c.size)∧Lib.runeCells (R:Int)=Lib.strCells c∧R≤2147483647∧(catB (l++[c])).size=(catB l).size+c.size∧c.size≠0:=by
 cases r with
 | nil=>subst h;simp at hp
 | cons c r =>
   subst h
   obtain⟨R,h1,h2,h3,_,h5⟩:=Zak l c r (hc c (by simp))
   exact⟨c,r,rfl,R,h1,h2,h3,h5,(hc c (by simp)).1⟩
theorem Zg6 {B b:Nat} {w:World} (cs:List ByteArray) (acc:ByteArray) (h:Bld B b (Lib.strCells acc) w) (hBw:B≤w.heap.size) (hc:∀ c∈cs,IsCh c) (hlen:(cs.foldl Zx (acc++⟨#[39]⟩)).size+10 < lots) (hmono:∀ l r,cs=l++r→(l.foldl Zx (acc++⟨#[39]⟩)).size≤(cs.foldl Zx (acc++⟨#[39]⟩)).size) :
 Calls Tryz.prog 176 #[ptr b,.string (catB cs)] w fun e w'=>e=.returned (.tuple #[])∧BldU B b (Lib.strCells (cs.foldl Zx (acc++⟨#[39]⟩)++⟨#[39]⟩)) w'∧Below B w w':=by
 have hl0:acc.size<lots:=by
  have:=hmono [] cs rfl
  simp only[List.foldl_nil,ByteArray.size_append] at this
  omega
 have C0:=hid (X6 39 h (by rw[Lib.strCells_length];exact hl0) hBw)
 rw[show Lib.strCells acc++[Value.int .u8 39]=Lib.strCells (acc++⟨#[39]⟩) from by rw[Y4];rfl] at C0
 generalize acc++⟨#[39]⟩=acc1 at C0 hlen hmono ⊢
 have HC:=hid hc
 have HL:=hid hlen
 have HM:=hid hmono
 clear h hl0 hc hlen hmono
 go_enter Tryz.func176,Tryz.ntmps176
 go_wp2_with (go_at_call 177;refine C0.out.mono ?_)
 rintro e w1 ⟨rfl,hu1,hb1,_⟩
 have hs1:=hb1.size
 go_wp2
 go_loopw [5] (fun _ wr=>QuoteInv B b w1.heap.size w cs acc1 wr) (fun _ wr=>(catB cs).size - wr.iterPos w1.heap.size)
 case atStart =>
  exact⟨[],cs,rfl,heap_alloc_new w1 _,hb1.alloc (by omega) _,(by show B≤(w1.alloc _).heap.size;rw[World.size_alloc];omega),Zcy hu1 (XF.alloc _ _)⟩
 case round =>
  obtain⟨l,r,hlr,hi,hb,hBr,hu⟩:=hrel
  have hm:=HM.out l r hlr
  have hL:=HL.out
  by_cases hp:(catB l).size<(catB cs).size
  · obtain⟨c,r',rfl,R,hd,hR,hR1,hsz,hc0⟩:=Zg5 hlr HC.out hp
    have hnx:=fun ty=>Lib.run_next_any_at (P:=Tryz.prog) _ w1.heap.size (catB cs) (catB l).size ty hi hp
    rw[hd] at hnx
    simp only at hnx
    have hq:=rune_q hR
    have hm2:=HM.out (l++[c]) r' (by rw[hlr];simp)
    rw[List.foldl_append,List.foldl_cons,List.foldl_nil] at hm2
    have hcl:=Zis (l.foldl Zx acc1) c
    rw[hq] at hcl
    have hts:(Zx (l.foldl Zx acc1) c).size ≥ (l.foldl Zx acc1).size:=by
     have:=Za1 [c] (l.foldl Zx acc1)
     simpa using this
    have hi2:=Lib.iterAt_heap _ _ (catB cs) _ ((catB l).size+c.size) hi
    have hb2:=Lib.below_iterAt hb (k:=w1.heap.size) (by omega) (catB cs) ((catB l).size+c.size)
    have hu2:=Zcy hu (XF.iterAt hi ((catB l).size+c.size))
    have hB2:B≤(World.iterAt wr w1.heap.size (catB cs) ((catB l).size+c.size)).heap.size:=by rw[Lib.iterAt_size];exact hBr
    have REL:=hid (show cs=(l++[c])++r' by rw[hlr];simp)
    have SZ:=hid hsz
    have CL:=hid hcl
    have hb2s:=hb2.size
    have hlen2:(Lib.strCells (l.foldl Zx acc1)).length<lots:=by rw[Lib.strCells_length];omega
    have hlen3:(Lib.strCells (l.foldl Zx acc1)++[Value.int .u8 92]).length<lots:=by rw[List.length_append,Lib.strCells_length];simp;omega
    have C92:=hid (X6 92 (YX hu2) hlen2 hB2)
    have CR:=hid (Zcz (R:Int) (by omega) (by omega) (YX hu2) hlen2 hB2)
    have CR2:=hid (fun (wx:World) (hx:BldU B b (Lib.strCells (l.foldl Zx acc1)++[Value.int .u8 92]) wx) (hBx:B≤wx.heap.size)=>Zcz (R:Int) (by omega) (by omega) (YX hx) hlen3 hBx)
    rw[hR] at CR CR2
    have MEAS:=hid (show ∀ wx:World,wx.heap[w1.heap.size]?=some (.stringIter (catB cs) ((catB l).size+c.size))→(catB cs).size - wx.iterPos w1.heap.size<(catB cs).size - (catB l).size from fun wx hx=>by rw[iterPos_of hx];omega)
    have IP:=iterPos_of hi
    clear hlr hm hL hu hm2 hcl hts hlen2 hlen3 hR hsz hd hq
    by_cases h39:R=39∨R=92
    · rw[show (decide (R=39) || decide (R=92))=true from by simpa using h39,if_pos rfl] at CL
      rcases h39 with rfl|rfl
      · skip
        go_wp2_with first
         | (go_at_call 177;refine C92.out.mono ?_;rintro e w3 ⟨rfl,hu3,hb3,hk3⟩
            have hs3:=hb3.size
            have C9:=hid (CR2.out w3 hu3 (by omega)))
         | (go_at_call 160;refine C9.out.mono ?_;rintro e w4 ⟨n4,rfl,hu4,hb4,hk4⟩)
        have hi4:=hk4 _ _ _ (hk3 _ _ _ hi2)
        go_roundw
        case rel =>
         refine⟨l++[c],r',REL.out,by rw[SZ.out];exact hi4,hb2.trans ((hb3.trans hb4).mono (Nat.le_refl _)),by have:=hb4.size;omega,?_⟩
         rw[List.foldl_append,List.foldl_cons,List.foldl_nil,CL.out]
         exact hu4
        case measure =>
         rw[IP]
         exact MEAS.out _ hi4
      · skip
        go_wp2_with first
         | (go_at_call 177;refine C92.out.mono ?_;rintro e w3 ⟨rfl,hu3,hb3,hk3⟩
            have hs3:=hb3.size
            have C9:=hid (CR2.out w3 hu3 (by omega)))
         | (go_at_call 160;refine C9.out.mono ?_;rintro e w4 ⟨n4,rfl,hu4,hb4,hk4⟩)
        have hi4:=hk4 _ _ _ (hk3 _ _ _ hi2)
        go_roundw
        case rel =>
         refine⟨l++[c],r',REL.out,by rw[SZ.out];exact hi4,hb2.trans ((hb3.trans hb4).mono (Nat.le_refl _)),by have:=hb4.size;omega,?_⟩
         rw[List.foldl_append,List.foldl_cons,List.foldl_nil,CL.out]
         exact hu4
        case measure =>
         rw[IP]
         exact MEAS.out _ hi4
    · have h1:((R:Int) == 39)=false:=by simp;omega
      have h2:((R:Int) == 92)=false:=by simp;omega
      rw[show (decide (R=39) || decide (R=92))=false from by simpa using h39,if_neg (by decide)] at CL
      go_wp2_with (go_at_call 160;refine CR.out.mono ?_;rintro e w4 ⟨n4,rfl,hu4,hb4,hk4⟩)
      have hi4:=hk4 _ _ _ hi2
      go_roundw
      case rel =>
       refine⟨l++[c],r',REL.out,by rw[SZ.out];exact hi4,hb2.trans hb4,by have:=hb4.size;omega,?_⟩
       rw[List.foldl_append,List.foldl_cons,List.foldl_nil,CL.out]
       exact hu4
      case measure =>
       rw[IP]
       exact MEAS.out _ hi4
  · have hnx:=fun ty=>Lib.run_next_end_at (P:=Tryz.prog) _ w1.heap.size (catB cs) (catB l).size ty hi hp
    obtain rfl:=Zg4 hlr HC.out hp
    have CE:=hid (X6 39 (YX hu) (by rw[Lib.strCells_length];omega) hBr)
    clear hlr hm hL hu
    go_wp2_with (go_at_call 177;refine CE.out.mono ?_)
    rintro e w3 ⟨rfl,hu3,hb3,_⟩
    go_wp2
    go_end0
    exact⟨rfl,by rw[Y4];exact hu3,hb.trans (hb3.mono (Nat.le_refl _))⟩
end
section
open Go.RowKit
theorem dig_all:∀ n:Fin 40,(digB n.val).data.toList=Lib.decDigits n.val:=by decide +kernel
theorem dig_eq (n:Nat) (h:n < 40):(⟨(Lib.decDigits n).toArray⟩:ByteArray)=digB n:=by
 rw[← dig_all ⟨n,h⟩]
theorem text_pre (a:ByteArray) (l:List ByteArray):∀ b:ByteArray,l.foldl Zx (a++b)=a++l.foldl Zx b:=by
 induction l with
 | nil=>intro b;rfl
 | cons c l ih =>
   intro b
   rw[List.foldl_cons,List.foldl_cons,← ih]
   congr 1
   unfold Zx
   split <;> simp only[ByteArray.append_assoc]
section
variable {w:World} {F:Nat→Prop} {bf bn cap:Nat} {pn:List PN} {s:List Nd}
theorem Zh.under {B:Nat} {w':World} (h:Zh w F bf bn cap pn s) (hF:∀ b,F b→b < B) (hb:Below B w w'):Zh w' F bf bn cap pn s :=
 h.keeps (G:=fun b=>B≤b) ⟨hb.os,hb.tape,hb.output,hb.size,fun k hk hn=>hb.block k (by omega)⟩ (fun b h1 h2=>by have:=hF b h1;omega)
def Wrote (B b:Nat) (t:ByteArray) (w:World) (e:Ending) (w':World):Prop:=e=.returned (.tuple #[])∧BldU B b (Lib.strCells t) w'∧Below B w w'
theorem Zjl {B b:Nat} (hD:Zh w F bf bn cap pn s) (hF:∀ b,F b→b < B) (n:Nat) (x:Nd) (hx:s[n]?=some x) (ht:x.t=true) (hn:n < 40) (acc:ByteArray) (h:Bld B b (Lib.strCells acc) w) (hBw:B≤w.heap.size) (hc:∀ c∈x.cs,IsCh c)
 (hlen:acc.size+(x.cs.foldl Zx (digB n++⟨#[39]⟩)).size+20<lots) :
 Calls Tryz.prog 147 #[ptr bf,ptr b,.int .i64 n] w (Wrote B b (acc++(x.cs.foldl Zx (digB n++⟨#[39]⟩)++⟨#[39]⟩)) w):=by
 have hi:n<s.length:=(List.getElem?_eq_some_iff.1 hx).1
 have h0:=hD.nodesCell
 obtain⟨r,hr,ho,c0,c1,c2,c3⟩:=hD.look hx
 rw[ht] at c1
 have hds:=JK n
 have C1:=hid (Tryz.strconv_Itoa_small n (by omega))
 rw[dig_eq n hn] at C1
 have C2:=hid (ZcA (digB n) h (by rw[Lib.strCells_length];omega) hBw)
 rw[← Y4] at C2
 have e1:x.cs.foldl Zx (acc++digB n++⟨#[39]⟩)=acc++x.cs.foldl Zx (digB n++⟨#[39]⟩):=by rw[ByteArray.append_assoc];exact text_pre _ _ _
 have C3:=hid (fun (w1:World) (h1:BldU B b (Lib.strCells (acc++digB n)) w1) (hB1:B≤w1.heap.size)=>Zg6 x.cs (acc++digB n) (YX h1) hB1 hc (by rw[e1,ByteArray.size_append];omega)
  (fun l r hlr=>by rw[hlr,List.foldl_append];exact Za1 r _))
 rw[e1,ByteArray.append_assoc] at C3
 have HD:=hid (fun w1 (hb:Below B w w1)=>(hD.under hF hb).look hx)
 have HN:=hid (fun w1 (hb:Below B w w1)=>(hD.under hF hb).nodesCell)
 clear hD hr ho hx c0 c2 c3 e1 h hlen hc hF
 go_enter Tryz.func147,Tryz.ntmps147
 go_wp2_with first
  | (go_at_call 175;refine(C1.out _).mono ?_;rintro e w1 ⟨rfl,rfl⟩)
  | (go_at_call 174;refine C2.out.mono ?_;rintro e w2 ⟨rfl,hu2,hb2,_⟩
     have hs2:=hb2.size
     have d0:=HN.out w2 hb2
     obtain⟨r2,_,_,_,_,_,d3⟩:=HD.out w2 hb2
     have C4:=hid (C3.out w2 hu2 (by omega)))
  | (go_at_call 176;refine C4.out.mono ?_;rintro e w3 ⟨rfl,hu3,hb3⟩)
 go_end0
 exact⟨rfl,hu3,hb2.trans hb3⟩
end
end
section
open Go.RowKit
theorem Zed {w:World} {bd:Nat} (r p0 p1 a y:Int) (hS:∀ W,Below w.heap.size w W→Calls Tryz.prog 130 #[.pointer (some ⟨bd,0,none⟩),.int .i64 r,.agg #[.int .i64 p0,.int .i64 p1],.bool true] W fun e w'=>e=.returned (Zi a y)∧Below W.heap.size W w') :
 Calls Tryz.prog 82 #[.pointer (some ⟨bd,0,none⟩),.int .i64 r,.agg #[.int .i64 p0,.int .i64 p1]] w fun e w'=>e=.returned (Zi a y)∧Below w.heap.size w w':=by
 have HB0:=hid (show Below w.heap.size w (pf w p0 p1) from ((Below.refl _ w).alloc (Nat.le_refl _) _).alloc (by simp) _)
 have C:=hid (hS _ HB0.out)
 have a1:(pf w p0 p1).heap[w.heap.size+1]?=some (.cells #[.int .i64 0,.int .i64 0] 32 (0,0)):=by
  have:=heap_alloc_new (w.alloc (.cells #[.int .i64 p0,.int .i64 p1] 37)) (.cells #[.int .i64 0,.int .i64 0] 32)
  simpa using this
 have HA1:=hid a1
 clear hS a1
 go_enter Tryz.func82,Tryz.ntmps82
 go_wp2_with (
  go_at_call 130
  refine C.out.mono ?_
  rintro e w1 ⟨rfl,hb1⟩
  have hz:=(hb1.block _ (Zc HA1.out)).trans HA1.out
  have z0:=Za hz 0
  have z1:=Za hz 1
  have f0:=Zd hz 0
  have f1:=Zd hz 1
  have hl:=Zc hz
  have HB1:=hid (HB0.out.trans (hb1.mono HB0.out.size))
  clear hb1 hz)
 refine bodyPost_ret (v:=Zi a y) (by simp[results,Tryz.results82,go_sem,z0,z1,f0,f1,hl]) rfl ?_
 exact⟨rfl,(HB1.out.setCell (p:=⟨w.heap.size+1,0,none⟩) (Nat.le_succ _) _).setCell (p:=⟨w.heap.size+1,1,none⟩) (Nat.le_succ _) _⟩
theorem Zb5 {w:World} {F:Nat→Prop} {bd:Nat} {s:List Nd} {rs rs':List Sp} (hD:RDoc w F bd s rs) (r p0 p1:Int) (hS:∀ (W:World) (G:Nat→Prop),RDoc W G bd s rs→Calls Tryz.prog 130 #[.pointer (some ⟨bd,0,none⟩),.int .i64 r,.agg #[.int .i64 p0,.int .i64 p1],.bool true] W fun e w'=>e=.returned (Zi 0 0)∧Zb G W w'∧RDoc w' (fun b=>G b∨W.heap.size≤b) bd s rs') :
 Calls Tryz.prog 82 #[.pointer (some ⟨bd,0,none⟩),.int .i64 r,.agg #[.int .i64 p0,.int .i64 p1]] w fun e w'=>e=.returned (Zi 0 0)∧Zb F w w'∧RDoc w' (grow F w) bd s rs':=by
 have HB0:=hid (show Below w.heap.size w (pf w p0 p1) from ((Below.refl _ w).alloc (Nat.le_refl _) _).alloc (by simp) _)
 have hD0:RDoc (pf w p0 p1) (fun b=>F b∧b<w.heap.size) bd s rs:=by
  obtain⟨bn,cap,rn,rv,h⟩:=hD
  exact⟨bn,cap,rn,rv,h.narrow.below HB0.out⟩
 have C:=hid (hS _ _ hD0)
 have a1:(pf w p0 p1).heap[w.heap.size+1]?=some (.cells #[.int .i64 0,.int .i64 0] 32 (0,0)):=by
  have:=heap_alloc_new (w.alloc (.cells #[.int .i64 p0,.int .i64 p1] 37)) (.cells #[.int .i64 0,.int .i64 0] 32)
  simpa using this
 have HA1:=hid a1
 clear hS a1 hD0 hD
 go_enter Tryz.func82,Tryz.ntmps82
 go_wp2_with (
  go_at_call 130
  refine C.out.mono ?_
  rintro e w1 ⟨rfl,hk1,hd1⟩
  have hz:=(hk1.block _ (Zc HA1.out) (fun e=>by omega)).trans HA1.out
  have z0:=Za hz 0
  have z1:=Za hz 1
  have f0:=Zd hz 0
  have f1:=Zd hz 1
  have hl:=Zc hz
  have H1:=hid (And.intro hk1 hd1)
  clear hk1 hd1 hz)
 refine bodyPost_ret (v:=Zi 0 0) (by simp[results,Tryz.results82,go_sem,z0,z1,f0,f1,hl]) rfl ?_
 obtain⟨hk1,hd1⟩:=H1.out
 have hk2:Zb F w w1:=(Zb.of_below HB0.out).trans (hk1.mono (fun b _ e=>.inl e.1))
 refine⟨rfl,(hk2.setCell (p:=⟨w.heap.size+1,0,none⟩) (.inr (Nat.le_succ _)) _).setCell (p:=⟨w.heap.size+1,1,none⟩) (.inr (Nat.le_succ _)) _,?_⟩
 refine(hd1.keeps (((Zb.refl (fun b=>b=w.heap.size+1) _).setCell (p:=⟨w.heap.size+1,0,none⟩) (.inl rfl) _).setCell (p:=⟨w.heap.size+1,1,none⟩) (.inl rfl) _) ?_).wider ?_
 · intro b hb e
   rcases hb with hb|hb
   · omega
   · simp only[World.size_alloc] at hb
     omega
 · intro b hb
   rcases hb with hb|hb
   · exact .inl hb.1
   · simp only[World.size_alloc] at hb
     exact .inr (by omega)
theorem Zd6 {w:World} {bd:Nat} (r p0 p1 a y:Int) (hS:∀ W,Below w.heap.size w W→Calls Tryz.prog 130 #[.pointer (some ⟨bd,0,none⟩),.int .i64 r,.agg #[.int .i64 p0,.int .i64 p1],.bool false] W fun e w'=>e=.returned (Zi a y)∧Below W.heap.size W w') :
 Calls Tryz.prog 83 #[.pointer (some ⟨bd,0,none⟩),.int .i64 r,.agg #[.int .i64 p0,.int .i64 p1]] w fun e w'=>e=.returned (Zi a y)∧Below w.heap.size w w':=by
 have HB0:=hid (show Below w.heap.size w (pf w p0 p1) from ((Below.refl _ w).alloc (Nat.le_refl _) _).alloc (by simp) _)
 have C:=hid (hS _ HB0.out)
 have a1:(pf w p0 p1).heap[w.heap.size+1]?=some (.cells #[.int .i64 0,.int .i64 0] 32 (0,0)):=by
  have:=heap_alloc_new (w.alloc (.cells #[.int .i64 p0,.int .i64 p1] 37)) (.cells #[.int .i64 0,.int .i64 0] 32)
  simpa using this
 have HA1:=hid a1
 clear hS a1
 go_enter Tryz.func83,Tryz.ntmps83
 go_wp2_with (
  go_at_call 130
  refine C.out.mono ?_
  rintro e w1 ⟨rfl,hb1⟩
  have hz:=(hb1.block _ (Zc HA1.out)).trans HA1.out
  have z0:=Za hz 0
  have z1:=Za hz 1
  have f0:=Zd hz 0
  have f1:=Zd hz 1
  have hl:=Zc hz
  have HB1:=hid (HB0.out.trans (hb1.mono HB0.out.size))
  clear hb1 hz)
 refine bodyPost_ret (v:=Zi a y) (by simp[results,Tryz.results83,go_sem,z0,z1,f0,f1,hl]) rfl ?_
 exact⟨rfl,(HB1.out.setCell (p:=⟨w.heap.size+1,0,none⟩) (Nat.le_succ _) _).setCell (p:=⟨w.heap.size+1,1,none⟩) (Nat.le_succ _) _⟩
theorem Zb0 {w:World} {F:Nat→Prop} {bd:Nat} {s:List Nd} {rs rs':List Sp} (hD:RDoc w F bd s rs) (r p0 p1:Int) (hS:∀ (W:World) (G:Nat→Prop),RDoc W G bd s rs→Calls Tryz.prog 130 #[.pointer (some ⟨bd,0,none⟩),.int .i64 r,.agg #[.int .i64 p0,.int .i64 p1],.bool false] W fun e w'=>e=.returned (Zi 0 0)∧Zb G W w'∧RDoc w' (fun b=>G b∨W.heap.size≤b) bd s rs') :
 Calls Tryz.prog 83 #[.pointer (some ⟨bd,0,none⟩),.int .i64 r,.agg #[.int .i64 p0,.int .i64 p1]] w fun e w'=>e=.returned (Zi 0 0)∧Zb F w w'∧RDoc w' (grow F w) bd s rs':=by
 have HB0:=hid (show Below w.heap.size w (pf w p0 p1) from ((Below.refl _ w).alloc (Nat.le_refl _) _).alloc (by simp) _)
 have hD0:RDoc (pf w p0 p1) (fun b=>F b∧b<w.heap.size) bd s rs:=by
  obtain⟨bn,cap,rn,rv,h⟩:=hD
  exact⟨bn,cap,rn,rv,h.narrow.below HB0.out⟩
 have C:=hid (hS _ _ hD0)
 have a1:(pf w p0 p1).heap[w.heap.size+1]?=some (.cells #[.int .i64 0,.int .i64 0] 32 (0,0)):=by
  have:=heap_alloc_new (w.alloc (.cells #[.int .i64 p0,.int .i64 p1] 37)) (.cells #[.int .i64 0,.int .i64 0] 32)
  simpa using this
 have HA1:=hid a1
 clear hS a1 hD0 hD
 go_enter Tryz.func83,Tryz.ntmps83
 go_wp2_with (
  go_at_call 130
  refine C.out.mono ?_
  rintro e w1 ⟨rfl,hk1,hd1⟩
  have hz:=(hk1.block _ (Zc HA1.out) (fun e=>by omega)).trans HA1.out
  have z0:=Za hz 0
  have z1:=Za hz 1
  have f0:=Zd hz 0
  have f1:=Zd hz 1
  have hl:=Zc hz
  have H1:=hid (And.intro hk1 hd1)
  clear hk1 hd1 hz)
 refine bodyPost_ret (v:=Zi 0 0) (by simp[results,Tryz.results83,go_sem,z0,z1,f0,f1,hl]) rfl ?_
 obtain⟨hk1,hd1⟩:=H1.out
 have hk2:Zb F w w1:=(Zb.of_below HB0.out).trans (hk1.mono (fun b _ e=>.inl e.1))
 refine⟨rfl,(hk2.setCell (p:=⟨w.heap.size+1,0,none⟩) (.inr (Nat.le_succ _)) _).setCell (p:=⟨w.heap.size+1,1,none⟩) (.inr (Nat.le_succ _)) _,?_⟩
 refine(hd1.keeps (((Zb.refl (fun b=>b=w.heap.size+1) _).setCell (p:=⟨w.heap.size+1,0,none⟩) (.inl rfl) _).setCell (p:=⟨w.heap.size+1,1,none⟩) (.inl rfl) _) ?_).wider ?_
 · intro b hb e
   rcases hb with hb|hb
   · omega
   · simp only[World.size_alloc] at hb
     omega
 · intro b hb
   rcases hb with hb|hb
   · exact .inl hb.1
   · simp only[World.size_alloc] at hb
     exact .inr (by omega)
end
end Go.Proofs.YtabogkonklplcaaGreatDoor
