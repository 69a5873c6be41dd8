import Derived.Test.YtabogkonklplcaaGreatDoorJ06
namespace Go.Proofs.YtabogkonklplcaaGreatDoor
set_option linter.unusedSimpArgs false
set_option linter.unusedVariables false
set_option maxRecDepth 20000
set_option maxHeartbeats 8000000
section
open Go.RowKit
section
variable {w:World} {F:Nat→Prop} {bd bn cap:Nat} {rn:List RN} {rv:Value} {s:List Nd} {rs:List Sp}
def isB (s:List Nd) (k:Int):Bool:=decide (0≤k∧k < s.length)
theorem Y2 {s:List Nd} {k:Int} (h:isB s k=true):0≤k∧k < s.length:=by simpa [isB] using h
theorem ZC {s:List Nd} {k:Int} (h:0≤k∧k < s.length):isB s k=true:=by simpa [isB] using h
theorem ZZ (hD:Zf w F bd bn cap rn rv s rs) (k:Int) :
 Calls Tryz.prog 47 #[.pointer (some ⟨bd,0,none⟩),.int .i64 k] w fun e w'=>e=.returned (.bool (isB s k))∧w'=w:=is_any hD k
theorem XE (hD:Zf w F bd bn cap rn rv s rs) {ht:Nat→Nat} {B:Nat} (hU:Up s ht B) (k o:Int) (hk:k < s.length) {b:Bool} (hb:Lim (fun c=>ZT s c k o) b) :
 Calls Tryz.prog 116 #[.pointer (some ⟨bd,0,none⟩),.int .i64 k,.int .i64 o] w fun e w'=>e=.returned (.bool b)∧w'=w:=by
 refine(Zi8 hD hU k o hk).mono ?_
 rintro e w' ⟨rfl,b',rfl,hl⟩
 exact⟨ret_bool (hl.unique hb),rfl⟩
theorem Zf.faultAt (hD:Zf w F bd bn cap rn rv s rs):Zf (w.alloc (.cells #[.int .i64 0,.int .i64 0] 32)) F bd bn cap rn rv s rs :=
 hD.below ((Below.refl _ w).alloc (Nat.le_refl _) _)
theorem Zhv (hD:Zf w F bd bn cap rn rv s rs) (p n k:Int) (hp:isB s p=false) :
 Calls Tryz.prog 75 #[.pointer (some ⟨bd,0,none⟩),.int .i64 p,.int .i64 n,.int .i64 k] w fun e w'=>e=.returned (.agg #[.int .i64 p,.int .i64 1])∧Below w.heap.size w w':=by
 have HD:Hid _:=hD.faultAt
 clear hD
 go_enter Tryz.func75,Tryz.ntmps75
 go_wp2_with (first
  | (go_at_call 47;refine(ZZ HD.out _).mono ?_;rintro e w' ⟨rfl,rfl⟩)
  | (go_at_call 48;refine(ZK _ _ _).mono ?_;rintro e w' ⟨rfl,rfl⟩))
 go_returns
 refine⟨rfl,?_⟩
 go_grown
theorem Zhu (hD:Zf w F bd bn cap rn rv s rs) (p n k:Int) (hp:isB s p=true) (hn:isB s n=false) :
 Calls Tryz.prog 75 #[.pointer (some ⟨bd,0,none⟩),.int .i64 p,.int .i64 n,.int .i64 k] w fun e w'=>e=.returned (.agg #[.int .i64 n,.int .i64 1])∧Below w.heap.size w w':=by
 have HD:Hid _:=hD.faultAt
 clear hD
 go_enter Tryz.func75,Tryz.ntmps75
 go_wp2_with (first
  | (go_at_call 47;refine(ZZ HD.out _).mono ?_;rintro e w' ⟨rfl,rfl⟩)
  | (go_at_call 48;refine(ZK _ _ _).mono ?_;rintro e w' ⟨rfl,rfl⟩))
 go_returns
 refine⟨rfl,?_⟩
 go_grown
theorem Zht (hD:Zf w F bd bn cap rn rv s rs) (i j:Nat) (k:Int) (x:Nd) (hx:s[i]?=some x) (hj:j < s.length) (ht:x.t=true) :
 Calls Tryz.prog 75 #[.pointer (some ⟨bd,0,none⟩),.int .i64 i,.int .i64 j,.int .i64 k] w fun e w'=>e=.returned (.agg #[.int .i64 i,.int .i64 2])∧Below w.heap.size w w':=by
 have hi:i<s.length:=(List.getElem?_eq_some_iff.1 hx).1
 have hp:isB s i=true:=ZC (by omega)
 have hn:isB s j=true:=ZC (by omega)
 have h0:=hD.nodesCell
 have hl:=hD.lt.1
 have hl2:=hD.lt.2
 obtain⟨r,hr,ho,hc0,-,-,-⟩:=hD.look hx
 rw[ht] at hc0
 have HD:Hid _:=hD.faultAt
 clear hD hr ho hx
 go_enter Tryz.func75,Tryz.ntmps75
 go_wp2_with (first
  | (go_at_call 47;refine(ZZ HD.out _).mono ?_;rintro e w' ⟨rfl,rfl⟩)
  | (go_at_call 48;refine(ZK _ _ _).mono ?_;rintro e w' ⟨rfl,rfl⟩))
 go_returns
 refine⟨rfl,?_⟩
 go_grown
theorem Zd9 (hD:Zf w F bd bn cap rn rv s rs) (i j:Nat) (k:Int) (x y:Nd) (hx:s[i]?=some x) (hy:s[j]?=some y) (ht:x.t=false) (hj:j=0∨0≤y.p) :
 Calls Tryz.prog 75 #[.pointer (some ⟨bd,0,none⟩),.int .i64 i,.int .i64 j,.int .i64 k] w fun e w'=>e=.returned (.agg #[.int .i64 j,.int .i64 4])∧Below w.heap.size w w':=by
 have hi:i<s.length:=(List.getElem?_eq_some_iff.1 hx).1
 have hj':j<s.length:=(List.getElem?_eq_some_iff.1 hy).1
 have hp:isB s i=true:=ZC (by omega)
 have hn:isB s j=true:=ZC (by omega)
 have h0:=hD.nodesCell
 have hl:=hD.lt.1
 have hl2:=hD.lt.2
 obtain⟨r,hr,ho,hc0,-,-,-⟩:=hD.look hx
 obtain⟨r',hr',ho',-,-,-,hc3⟩:=hD.look hy
 rw[ht] at hc0
 have HD:Hid _:=hD.faultAt
 clear hD hr ho hx hr' ho' hy ht
 rcases Nat.eq_zero_or_pos j with h1|h1
 · subst h1
   have hn0:isB s (0:Int)=true:=by simpa using hn
   clear hn hj
   have hl0:0<s.length:=by omega
   go_enter Tryz.func75,Tryz.ntmps75
   go_wp2_with (first
    | (go_at_call 47;refine(ZZ HD.out _).mono ?_;rintro e w' ⟨rfl,rfl⟩)
    | (go_at_call 48;refine(ZK _ _ _).mono ?_;rintro e w' ⟨rfl,rfl⟩))
   go_returns
   refine⟨by simp,?_⟩
   go_grown
 · have h2:0≤y.p:=by omega
   have hj0:((j:Int) == 0)=false:=by simp;omega
   clear hj
   go_enter Tryz.func75,Tryz.ntmps75
   go_wp2_with (first
    | (go_at_call 47;refine(ZZ HD.out _).mono ?_;rintro e w' ⟨rfl,rfl⟩)
    | (go_at_call 48;refine(ZK _ _ _).mono ?_;rintro e w' ⟨rfl,rfl⟩))
   go_returns
   refine⟨rfl,?_⟩
   go_grown
structure YI (s:List Nd) (i j:Nat) (x y:Nd):Prop where
 hx:s[i]?=some x
 hy:s[j]?=some y
 ht:x.t=false
 hj:0<j
 hp:y.p<0
theorem Zhr (hD:Zf w F bd bn cap rn rv s rs) {ht:Nat→Nat} {B:Nat} (hU:Up s ht B) (i j:Nat) (k:Int) (x y:Nd) (h:YI s i j x y) (hw:Lim (fun c=>ZT s c (i:Int) (j:Int)) true) :
 Calls Tryz.prog 75 #[.pointer (some ⟨bd,0,none⟩),.int .i64 i,.int .i64 j,.int .i64 k] w fun e w'=>e=.returned (.agg #[.int .i64 j,.int .i64 5])∧Below w.heap.size w w':=by
 obtain⟨hx,hy,ht0,hj,hyp⟩:=h
 have hi:i<s.length:=(List.getElem?_eq_some_iff.1 hx).1
 have hj':j<s.length:=(List.getElem?_eq_some_iff.1 hy).1
 have hp:isB s i=true:=ZC (by omega)
 have hn:isB s j=true:=ZC (by omega)
 have h0:=hD.nodesCell
 have hl:=hD.lt.1
 have hl2:=hD.lt.2
 obtain⟨r,hr,ho,hc0,-,-,-⟩:=hD.look hx
 obtain⟨r',hr',ho',-,-,-,hc3⟩:=hD.look hy
 rw[ht0] at hc0
 have HD:Hid _:=hD.faultAt
 have HU:Hid _:=hU
 have HW:Hid _:=hw
 have hj0:((j:Int) == 0)=false:=by simp;omega
 clear hD hr ho hx hr' ho' hy ht0 hU hw
 go_enter Tryz.func75,Tryz.ntmps75
 go_wp2_with (first
  | (go_at_call 47;refine(ZZ HD.out _).mono ?_;rintro e w' ⟨rfl,rfl⟩)
  | (go_at_call 116;refine(XE HD.out HU.out _ _ (by omega) HW.out).mono ?_;rintro e w' ⟨rfl,rfl⟩)
  | (go_at_call 48;refine(ZK _ _ _).mono ?_;rintro e w' ⟨rfl,rfl⟩))
 go_returns
 refine⟨rfl,?_⟩
 go_grown
theorem Zhs (hD:Zf w F bd bn cap rn rv s rs) {ht:Nat→Nat} {B:Nat} (hU:Up s ht B) (i j:Nat) (k:Int) (x y:Nd) (h:YI s i j x y) (hw:Lim (fun c=>ZT s c (i:Int) (j:Int)) false) (hk:k < 0∨(x.ks.length:Int) < k) :
 Calls Tryz.prog 75 #[.pointer (some ⟨bd,0,none⟩),.int .i64 i,.int .i64 j,.int .i64 k] w fun e w'=>e=.returned (.agg #[.int .i64 i,.int .i64 3])∧Below w.heap.size w w':=by
 obtain⟨hx,hy,ht0,hj,hyp⟩:=h
 have hi:i<s.length:=(List.getElem?_eq_some_iff.1 hx).1
 have hj':j<s.length:=(List.getElem?_eq_some_iff.1 hy).1
 have hp:isB s i=true:=ZC (by omega)
 have hn:isB s j=true:=ZC (by omega)
 have h0:=hD.nodesCell
 have hl:=hD.lt.1
 have hl2:=hD.lt.2
 obtain⟨r,hr,ho,hc0,-,hc2,-⟩:=hD.look hx
 obtain⟨r',hr',ho',-,-,-,hc3⟩:=hD.look hy
 obtain⟨a,c,hv⟩:=Zo ho.kids
 rw[hv] at hc2
 rw[ht0] at hc0
 have HD:Hid _:=hD.faultAt
 have HU:Hid _:=hU
 have HW:Hid _:=hw
 have hj0:((j:Int) == 0)=false:=by simp;omega
 clear hD hr ho hx hr' ho' hy ht0 hU hw hv
 rcases hk with hk|hk
 all_goals
  go_enter Tryz.func75,Tryz.ntmps75
  go_wp2_with (first
   | (go_at_call 47;refine(ZZ HD.out _).mono ?_;rintro e w' ⟨rfl,rfl⟩)
   | (go_at_call 116;refine(XE HD.out HU.out _ _ (by omega) HW.out).mono ?_;rintro e w' ⟨rfl,rfl⟩)
   | (go_at_call 48;refine(ZK _ _ _).mono ?_;rintro e w' ⟨rfl,rfl⟩))
  go_returns
  refine⟨rfl,?_⟩
  go_grown
end
end
section
open Go.RowKit
def JL (d:Nat):ByteArray:=(⟨#[48,49,50,51,52,53,54,55,56,57]⟩:ByteArray).extract d (d+1)
def digB (n:Nat):ByteArray:=if n < 10 then JL (n % 10)++⟨#[]⟩ else JL (n / 10 % 10)++(JL (n % 10)++⟨#[]⟩)
theorem ZaR {a b:ByteArray} (h:a=b):Ending.returned (.string a)=.returned (.string b):=by rw [h]
theorem ZcO (d:Nat):(JL d).size≤1:=by unfold JL;rw [ByteArray.size_extract];omega
theorem JK (n:Nat):(digB n).size≤2:=by
 have h1:=ZcO (n % 10)
 have h2:=ZcO (n / 10 % 10)
 have h3:(⟨#[]⟩:ByteArray).size=0:=rfl
 unfold digB
 split
 · rw[ByteArray.size_append];omega
 · rw[ByteArray.size_append,ByteArray.size_append];omega
theorem Zal (n:Nat) (hn:n < 100) (w:World) :
 Calls Tryz.prog 166 #[.int .i64 n] w fun e w'=>e=.returned (.string (digB n))∧w'=w:=by
 by_cases h:n<10
 · have hd:((n:Int) / 10 == 0)=true:=by simp;omega
   go_enter Tryz.func166,Tryz.ntmps166
   go_wp2
   go_rounds 1
   go_ret
   exact⟨ZaR (by rw[digB,if_pos h];rfl),rfl⟩
 · have hd:((n:Int) / 10 == 0)=false:=by simp;omega
   have hd2:((n:Int) / 10 / 10 == 0)=true:=by simp;omega
   go_enter Tryz.func166,Tryz.ntmps166
   go_wp2
   go_rounds 2
   go_ret
   exact⟨ZaR (by rw[digB,if_neg h];rfl),rfl⟩
def isQ (c:ByteArray):Bool:=(c.toList == [39]) || (c.toList == [92])
def Zx (acc c:ByteArray):ByteArray:=(if isQ c then acc++⟨#[92]⟩ else acc)++c
def ZN (f:Nat→ByteArray) (acc:ByteArray) (c:Nat):ByteArray:=acc++⟨#[32]⟩++f c
def Yd (s:List Nd):Nat→Nat→ByteArray
 | 0,_=>ByteArray.empty
 | k+1,n=>match s[n]? with
   | none=>ByteArray.empty
   | some x=>if x.t then x.cs.foldl Zx (digB n++⟨#[39]⟩)++⟨#[39]⟩ else x.ks.foldl (ZN (Yd s k)) (⟨#[60]⟩++digB n)++⟨#[62]⟩
theorem Za1 (l:List ByteArray) (a:ByteArray):a.size≤(l.foldl Zx a).size:=by
 induction l generalizing a with
 | nil=>exact Nat.le_refl _
 | cons c l ih =>
   refine Nat.le_trans ?_ (ih _)
   unfold Zx
   split <;> simp only[ByteArray.size_append] <;> omega
theorem JM (f:Nat→ByteArray) (l:List Nat) (a:ByteArray):a.size≤(l.foldl (ZN f) a).size:=by
 induction l generalizing a with
 | nil=>exact Nat.le_refl _
 | cons c l ih =>
   refine Nat.le_trans ?_ (ih _)
   unfold ZN
   simp only[ByteArray.size_append];omega
section
variable {w:World} {F:Nat→Prop} {bd bn cap:Nat} {rn:List RN} {rv:Value} {s:List Nd} {rs:List Sp}
theorem ZhW (hD:Zf w F bd bn cap rn rv s rs) (n:Nat) (x:Nd) (hx:s[n]?=some x) (ht:x.t=true) (hn:n < 100) (hcs:x.cs.length < lots) (hsz:(x.cs.foldl Zx (digB n++⟨#[39]⟩)).size < lots) :
 Calls Tryz.prog 122 #[.pointer (some ⟨bd,0,none⟩),.int .i64 n] w fun e w'=>e=.returned (.string (x.cs.foldl Zx (digB n++⟨#[39]⟩)++⟨#[39]⟩))∧Below w.heap.size w w':=by
 have hi:n<s.length:=(List.getElem?_eq_some_iff.1 hx).1
 have h0:=hD.nodesCell
 have hl:=hD.lt.1
 have hl2:=hD.lt.2
 obtain⟨r,hr,ho,hc0,hc1,hc2,hc3⟩:=hD.look hx
 rw[ht] at hc0
 obtain⟨a1,d1,hv1⟩:=Zo ho.chars
 obtain⟨a2,d2,hv2⟩:=Zo ho.kids
 rw[hv1] at hc1
 rw[hv2] at hc2
 have HR:Hid (w.ownsRow 0 9 1 (.slice a1 x.cs.length d1) x.cs.length (ZF x.cs)):=by rw[← hv1];exact ho.chars
 have hds:=JK n
 unfold lots at hcs
 have HSZ:=hid hsz
 have HX:=hid hx
 clear hD hr ho hx hv1 hv2 hsz ht
 have hfirst:(digB n++(⟨#[39]⟩:ByteArray)).size≤3:=by rw[ByteArray.size_append];have:(⟨#[39]⟩:ByteArray).size=1:=rfl;omega
 rcases ZB HR.out with ⟨hnil,hlen0⟩|⟨g,c,hv⟩
 · have hz:x.cs=[]:=List.length_eq_zero_iff.1 hlen0
   rw[hz]
   rw[hnil] at hc1
   clear hcs
   go_enter Tryz.func122,Tryz.ntmps122
   go_wp2_with (go_at_call 166;refine(Zal n hn _).mono ?_;rintro e w' ⟨rfl,rfl⟩)
   go_rounds 1
   go_wp2
   go_ret
   exact⟨rfl,(Below.refl _ w).alloc (Nat.le_refl _) _⟩
 · rw[hv] at hc1
   have hrow:=HR.out
   rw[hv] at hrow
   have hgl:g<w.heap.size:=(hrow.lt g rfl).2
   have CELL:Hid (∀ (j:Nat) (u:ByteArray),x.cs[j]?=some u→w.cell? ⟨g,j,none⟩=some (.string u)):=by
    intro j u hj
    rw[hrow.cellAt j (by have:=(List.getElem?_eq_some_iff.1 hj).1;omega)]
    simp[ZF,hj]
   clear hrow hv
   go_enter Tryz.func122,Tryz.ntmps122
   go_wp2_with (go_at_call 166;refine(Zal n hn _).mono ?_;rintro e w' ⟨rfl,rfl⟩)
   go_loop [8,9] (fun a b=>∃ j:Nat,j≤x.cs.length∧b=.int .i64 j∧a=.string ((x.cs.take j).foldl Zx (digB n++⟨#[39]⟩))) (fun _ b=>x.cs.length - (intOf b).toNat)
   case atStart=>exact⟨0,Nat.zero_le _,rfl,rfl⟩
   case round =>
    obtain⟨j,hj,rfl,rfl⟩:=hrel
    have hacc:((x.cs.take j).foldl Zx (digB n++⟨#[39]⟩)).size<2000000:=by
     have h1:=HSZ.out
     unfold lots at h1
     refine Nat.lt_of_le_of_lt ?_ h1
     conv=>rhs;rw[← List.take_append_drop j x.cs,List.foldl_append]
     exact Za1 _ _
    by_cases hlt:j<x.cs.length
    · obtain⟨u,hu⟩:∃ u,x.cs[j]?=some u:=⟨_,List.getElem?_eq_getElem hlt⟩
      have hcu:=CELL.out j u hu
      have HU:=hid hu
      clear hu
      have hnext:((x.cs.take (j+1)).foldl Zx (digB n++⟨#[39]⟩)).size<2000000:=by
       have h1:=HSZ.out
       unfold lots at h1
       refine Nat.lt_of_le_of_lt ?_ h1
       conv=>rhs;rw[← List.take_append_drop (j+1) x.cs,List.foldl_append]
       exact Za1 _ _
      have hstep:Hid ((x.cs.take (j+1)).foldl Zx (digB n++⟨#[39]⟩)=Zx ((x.cs.take j).foldl Zx (digB n++⟨#[39]⟩)) u):=by
       show _=_
       rw[List.take_add_one,HU.out]
       simp
      have hus:u.size<2000000:=by
       rw[hstep.out] at hnext
       unfold Zx at hnext
       rw[ByteArray.size_append] at hnext
       omega
      clear hnext
      generalize (x.cs.take j).foldl Zx (digB n++⟨#[39]⟩)=acc at *
      by_cases h1:(u.toList == [39])=true
      · have hq:isQ u=true:=by simp[isQ,h1]
        go_wp2
        refine⟨⟨j+1,by omega,by go_num,?_⟩,by simp[intOf];omega⟩
        rw[hstep.out]
        simp[Zx,hq]
      · have h1:(u.toList == [39])=false:=by simpa using h1
        by_cases h2:(u.toList == [92])=true
        · have hq:isQ u=true:=by simp[isQ,h2]
          go_wp2
          refine⟨⟨j+1,by omega,by go_num,?_⟩,by simp[intOf];omega⟩
          rw[hstep.out]
          simp[Zx,hq]
        · have h2:(u.toList == [92])=false:=by simpa using h2
          have hq:isQ u=false:=by simp[isQ,h1,h2]
          go_wp2
          refine⟨⟨j+1,by omega,by go_num,?_⟩,by simp[intOf];omega⟩
          rw[hstep.out]
          simp[Zx,hq]
    · go_wp2
      go_ret
      have e1:x.cs.take j=x.cs:=List.take_of_length_le (by omega)
      exact⟨ZaR (by rw[e1]),(Below.refl _ w).alloc (Nat.le_refl _) _⟩
theorem ZhU (hD:Zf w F bd bn cap rn rv s rs) (n:Nat) (x:Nd) (f:Nat→ByteArray) (hx:s[n]?=some x) (ht:x.t=false) (hn:n < 100) (hks:x.ks.length < lots)
 (hsz:(x.ks.foldl (ZN f) (⟨#[60]⟩++digB n)).size<lots)
 (ih:∀ c∈x.ks,∀ w1:World,Zf w1 F bd bn cap rn rv s rs→Calls Tryz.prog 122 #[.pointer (some ⟨bd,0,none⟩),.int .i64 c] w1 fun e w'=>e=.returned (.string (f c))∧Below w1.heap.size w1 w') :
 Calls Tryz.prog 122 #[.pointer (some ⟨bd,0,none⟩),.int .i64 n] w fun e w'=>e=.returned (.string (x.ks.foldl (ZN f) (⟨#[60]⟩++digB n)++⟨#[62]⟩))∧Below w.heap.size w w':=by
 have hi:n<s.length:=(List.getElem?_eq_some_iff.1 hx).1
 have h0:=hD.nodesCell
 have hl:=hD.lt.1
 have hl2:=hD.lt.2
 obtain⟨r,hr,ho,hc0,hc1,hc2,hc3⟩:=hD.look hx
 rw[ht] at hc0
 obtain⟨a1,d1,hv1⟩:=Zo ho.chars
 obtain⟨a2,d2,hv2⟩:=Zo ho.kids
 rw[hv1] at hc1
 rw[hv2] at hc2
 have HR:Hid (w.ownsRow 0 3 1 (.slice a2 x.ks.length d2) x.ks.length (Zg x.ks)):=by rw[← hv2];exact ho.kids
 have hds:=JK n
 unfold lots at hks
 have HSZ:=hid hsz
 have HX:=hid hx
 have HD:=hid hD
 have IH:=hid ih
 clear hD hr ho hx hv1 hv2 hsz ht ih
 have hfirst:((⟨#[60]⟩:ByteArray)++digB n).size≤3:=by rw[ByteArray.size_append];have:(⟨#[60]⟩:ByteArray).size=1:=rfl;omega
 rcases ZB HR.out with ⟨hnil,hlen0⟩|⟨g,c,hv⟩
 · have hz:x.ks=[]:=List.length_eq_zero_iff.1 hlen0
   rw[hz]
   rw[hnil] at hc2
   clear hks
   go_enter Tryz.func122,Tryz.ntmps122
   go_wp2_with (go_at_call 166;refine(Zal n hn _).mono ?_;rintro e w' ⟨rfl,rfl⟩)
   go_rounds 1
   go_wp2
   go_ret
   exact⟨rfl,(Below.refl _ w).alloc (Nat.le_refl _) _⟩
 · rw[hv] at hc2
   have hrow:=HR.out
   rw[hv] at hrow
   have hgl:g<w.heap.size:=(hrow.lt g rfl).2
   have CELL:Hid (∀ (j:Nat) (u:Nat),x.ks[j]?=some u→w.cell? ⟨g,j,none⟩=some (.int .i64 (u:Int))):=by
    intro j u hj
    rw[hrow.cellAt j (by have:=(List.getElem?_eq_some_iff.1 hj).1;omega)]
    simp[Zg,hj]
   clear hrow hv
   go_enter Tryz.func122,Tryz.ntmps122
   go_wp2_with (go_at_call 166;refine(Zal n hn _).mono ?_;rintro e w' ⟨rfl,rfl⟩)
   obtain⟨W,hW⟩:∃ W,w.alloc (.cells #[.bool false,.slice a1 x.cs.length d1,.slice (some ⟨g,0,none⟩) x.ks.length c,.int .i64 x.p] 119)=W:=⟨_,rfl⟩
   have hWs:W.heap.size=w.heap.size+1:=by rw[← hW];simp
   have hWb:Below w.heap.size w W:=by rw[← hW];exact(Below.refl _ w).alloc (Nat.le_refl _) _
   have hWq:W.heap[w.heap.size]?=some (.cells #[.bool false,.slice a1 x.cs.length d1,.slice (some ⟨g,0,none⟩) x.ks.length c,.int .i64 x.p] 119 (0,0)):=by rw[← hW];exact heap_alloc_new w _
   rw[hW]
   have HWB:=hid hWb
   have HWQ:=hid hWq
   clear hWb hWq hW
   go_loopw [6,7] (fun a b wr=>∃ j:Nat,j≤x.ks.length∧b=.int .i64 j∧a=.string ((x.ks.take j).foldl (ZN f) (⟨#[60]⟩++digB n))∧Below (w.heap.size+1) W wr) (fun _ b _=>x.ks.length - (intOf b).toNat)
   case atStart=>exact⟨0,Nat.zero_le _,rfl,rfl,Below.refl _ _⟩
   case round =>
    obtain⟨j,hj,rfl,rfl,hbr⟩:=hrel
    have hrq:=(hbr.block w.heap.size (by omega)).trans HWQ.out
    have hrc0:wr.cell? ⟨w.heap.size,2,none⟩=some (.slice (some ⟨g,0,none⟩) x.ks.length c):=Za hrq 2
    have hbw:Below w.heap.size w wr:=HWB.out.trans (hbr.mono (by omega))
    have HBR:=hid hbr
    have HBW:=hid hbw
    have hacc:((x.ks.take j).foldl (ZN f) (⟨#[60]⟩++digB n)).size<2000000:=by
     have h1:=HSZ.out
     unfold lots at h1
     refine Nat.lt_of_le_of_lt ?_ h1
     conv=>rhs;rw[← List.take_append_drop j x.ks,List.foldl_append]
     exact JM _ _ _
    by_cases hlt:j<x.ks.length
    · obtain⟨u,hu⟩:∃ u,x.ks[j]?=some u:=⟨_,List.getElem?_eq_getElem hlt⟩
      have hcu:wr.cell? ⟨g,j,none⟩=some (.int .i64 (u:Int)):=(hbw.cell (p:=⟨g,j,none⟩) hgl).trans (CELL.out j u hu)
      have HU:=hid hu
      have hnext:((x.ks.take (j+1)).foldl (ZN f) (⟨#[60]⟩++digB n)).size<2000000:=by
       have h1:=HSZ.out
       unfold lots at h1
       refine Nat.lt_of_le_of_lt ?_ h1
       conv=>rhs;rw[← List.take_append_drop (j+1) x.ks,List.foldl_append]
       exact JM _ _ _
      have hstep:Hid ((x.ks.take (j+1)).foldl (ZN f) (⟨#[60]⟩++digB n)=ZN f ((x.ks.take j).foldl (ZN f) (⟨#[60]⟩++digB n)) u):=by
       show _=_
       rw[List.take_add_one,HU.out]
       simp
      have hus:(f u).size<2000000:=by
       rw[hstep.out] at hnext
       unfold ZN at hnext
       rw[ByteArray.size_append] at hnext
       omega
      have HIH:=hid (IH.out u (List.mem_of_getElem? hu) wr (HD.out.below hbw))
      clear hnext hu hbr hbw hrq
      generalize (x.ks.take j).foldl (ZN f) (⟨#[60]⟩++digB n)=acc at *
      go_wp2_with (go_at_call 122;refine HIH.out.mono ?_;rintro e w1 ⟨rfl,hb1⟩)
      refine⟨⟨j+1,by omega,by go_num,?_,?_⟩,by simp[intOf];omega⟩
      · rw[hstep.out];rfl
      · exact HBR.out.trans (hb1.mono (by have:=HBR.out.size;omega))
    · clear hrq
      go_wp2
      go_ret
      have e1:x.ks.take j=x.ks:=List.take_of_length_le (by omega)
      exact⟨ZaR (by rw[e1]),hbw⟩
end
end
section
open Go.RowKit
def ZD (s:List Nd) (i:Nat):List Nat:=match s[i]? with | some x=>x.ks | none=>[]
def IsCh (c:ByteArray):Prop:=c.size≠0∧Zu c=c.size
structure WF (s:List Nd):Prop where
 pos:0<s.length
 cap:s.length≤40
 up:∃ h B,Up s h B
 kid:∀ (i:Nat) (x:Nd),s[i]?=some x→∀ c∈x.ks,∃ y,s[c]?=some y∧y.p=(i:Int)
 par:∀ (c:Nat) (y:Nd),s[c]?=some y→y.p = -1∨∃ (i:Nat) (x:Nd),y.p=(i:Int)∧s[i]?=some x∧c∈x.ks
 nodup:∀ (i:Nat) (x:Nd),s[i]?=some x→x.ks.Nodup
 root:∀ x,s[0]?=some x→x.p = -1
 elem:∀ (i:Nat) (x:Nd),s[i]?=some x→(x.t=true→x.ks=[])∧(x.t=false→x.cs=[])
 chars:∀ (i:Nat) (x:Nd),s[i]?=some x→x.cs.length≤30∧∀ c∈x.cs,IsCh c
theorem Zdg (t:ByteArray):Zu t≤4:=by
 have h:=ZdG (Zt t 0)
 unfold Zu
 simp only[]
 split
 · omega
 · split <;> omega
theorem WF.kid_lt {s:List Nd} (wf:WF s) {h:Nat→Nat} {B:Nat} (u:Up s h B) {i c:Nat} {x:Nd} (hx:s[i]?=some x) (hc:c∈x.ks):c < s.length∧h c < h i:=by
 obtain⟨y,hy,hp⟩:=wf.kid i x hx c hc
 have:=u.par c y hy (by omega)
 rw[hp] at this
 exact⟨(List.getElem?_eq_some_iff.1 hy).1,by simpa using this.2⟩
def allF (s:List Nd):Nat→Nat→List Nat
 | 0,_=>[]
 | k+1,n=>n::(ZD s n).flatMap (allF s k)
theorem Yp {s:List Nd} {i:Nat} {x:Nd} (h:s[i]?=some x):ZD s i=x.ks:=by simp [ZD,h]
theorem Y8 {s:List Nd} {i c:Nat} (h:c∈ZD s i):∃ x,s[i]?=some x∧c∈x.ks:=by
 unfold ZD at h
 split at h
 · exact⟨_,‹_›,h⟩
 · simp at h
def climb (s:List Nd):Nat→Nat→Int
 | 0,d=>d
 | j+1,d=>if climb s j d<0 then -1 else Zw s (climb s j d).toNat
theorem Ya {s:List Nd} {j d e:Nat} (h:climb s j d=(e:Int)):climb s (j+1) d=Zw s e:=by
 have:¬ ((e:Int)<0):=by omega
 simp[climb,h,this]
theorem YG {s:List Nd} {i d e:Nat} (h:climb s i d=(e:Int)) (j:Nat):climb s (i+j) d=climb s j e:=by
 induction j with
 | zero=>exact h
 | succ j ih =>
   show climb s (i+j+1) d=climb s (j+1) e
   simp only[climb,ih]
theorem XH {s:List Nd} (wf:WF s):∀ (k n d:Nat),d∈allF s k n→∃ j,climb s j d=(n:Int):=by
 intro k
 induction k with
 | zero=>intro n d h;simp[allF] at h
 | succ k ih =>
   intro n d h
   simp only[allF,List.mem_cons,List.mem_flatMap] at h
   rcases h with rfl|⟨c,hc,hd⟩
   · exact⟨0,rfl⟩
   · obtain⟨j,hj⟩:=ih c d hd
     obtain⟨x,hx,hcx⟩:=Y8 hc
     obtain⟨y,hy,hp⟩:=wf.kid n x hx c hcx
     exact⟨j+1,by rw[Ya hj];simp[Zw,hy,hp]⟩
theorem Zbn {s:List Nd} {h:Nat→Nat} {B:Nat} (u:Up s h B):∀ (j d e:Nat),climb s j d=(e:Int)→h d≤h e∧(0 < j→h d < h e):=by
 intro j
 induction j with
 | zero =>
   intro d e he
   have:d=e:=by simp[climb] at he;omega
   subst this
   exact⟨Nat.le_refl _,by omega⟩
 | succ j ih =>
   intro d e he
   by_cases hneg:climb s j d<0
   · simp[climb,hneg] at he
   · obtain⟨m,hm⟩:=Int.eq_ofNat_of_zero_le (show 0≤climb s j d by omega)
     have h1:=ih d m hm
     rw[Ya hm] at he
     unfold Zw at he
     split at he
     · rename_i x hx
       have:=(u.par m x hx (by omega)).2
       rw[he] at this
       simp at this
       exact⟨by omega,fun _=>by omega⟩
     · omega
theorem JC {s:List Nd} (wf:WF s) {h:Nat→Nat} {B:Nat} (u:Up s h B) {k n c:Nat} (hc:c∈ZD s n):n∉allF s k c:=by
 intro hn
 obtain⟨j,hj⟩:=XH wf k c n hn
 obtain⟨x,hx,hcx⟩:=Y8 hc
 have h1:=(Zbn u j n c hj).1
 have h2:=(wf.kid_lt u hx hcx).2
 omega
theorem Zcr {s:List Nd} (wf:WF s) {h:Nat→Nat} {B:Nat} (u:Up s h B) {k n c1 c2 d:Nat} (h1:c1∈ZD s n) (h2:c2∈ZD s n) (hd1:d∈allF s k c1) (hd2:d∈allF s k c2):c1=c2:=by
 obtain⟨j1,hj1⟩:=XH wf k c1 d hd1
 obtain⟨j2,hj2⟩:=XH wf k c2 d hd2
 obtain⟨x,hx,hx1⟩:=Y8 h1
 obtain⟨x',hx',hx2⟩:=Y8 h2
 rw[hx] at hx'
 cases hx'
 obtain⟨y1,hy1,hp1⟩:=wf.kid n x hx c1 hx1
 obtain⟨y2,hy2,hp2⟩:=wf.kid n x hx c2 hx2
 have key:∀ {a b ja jb:Nat} {ya:Nd},climb s ja d=(a:Int)→climb s jb d=(b:Int)→s[a]?=some ya→ya.p=(n:Int)→h b<h n→ja<jb→False:=by
  intro a b ja jb ya ha hb hya hpa hbn hlt
  have e1:climb s (ja+1) d=(n:Int):=by rw[Ya ha];simp[Zw,hya,hpa]
  have e2:=YG e1 (jb - (ja+1))
  rw[show ja+1+(jb - (ja+1))=jb by omega,hb] at e2
  have:=(Zbn u _ n b e2.symm).1
  omega
 have l1:=(wf.kid_lt u hx hx1).2
 have l2:=(wf.kid_lt u hx hx2).2
 rcases Nat.lt_trichotomy j1 j2 with e|e|e
 · exact(key hj1 hj2 hy1 hp1 l2 e).elim
 · subst e;rw[hj1] at hj2;omega
 · exact(key hj2 hj1 hy2 hp2 l1 e).elim
theorem Zcs {s:List Nd} (wf:WF s):∀ (k n:Nat),(allF s k n).Nodup:=by
 obtain⟨h,B,u⟩:=wf.up
 intro k
 induction k with
 | zero=>intro n;simp[allF]
 | succ k ih =>
   intro n
   simp only[allF,List.nodup_cons]
   refine⟨?_,?_⟩
   · intro hm
     obtain⟨c,hc,hn⟩:=List.mem_flatMap.1 hm
     exact JC wf u hc hn
   · unfold List.Nodup
     rw[List.pairwise_flatMap]
     refine⟨fun c _=>ih c,?_⟩
     have hnd:(ZD s n).Nodup:=by
      unfold ZD
      split
      · exact wf.nodup n _ ‹_›
      · simp
     refine(List.Pairwise.and_mem.1 hnd).imp ?_
     rintro a b ⟨ha,hb,hne⟩ x hx y hy e
     subst e
     exact hne (Zcr wf u ha hb hx hy)
theorem X5 {s:List Nd} (wf:WF s):∀ (k n:Nat),n < s.length→∀ d∈allF s k n,d < s.length:=by
 intro k
 induction k with
 | zero=>intro n _ d h;simp[allF] at h
 | succ k ih =>
   intro n hn d h
   simp only[allF,List.mem_cons,List.mem_flatMap] at h
   rcases h with rfl|⟨c,hc,hd⟩
   · exact hn
   · obtain⟨x,hx,hcx⟩:=Y8 hc
     obtain⟨y,hy,_⟩:=wf.kid n x hx c hcx
     exact ih c (List.getElem?_eq_some_iff.1 hy).1 d hd
theorem Xx:∀ (n:Nat) (l:List Nat),l.Nodup→(∀ x∈l,x < n)→l.length≤n:=by
 intro n
 induction n with
 | zero =>
   intro l _ h
   cases l with
   | nil=>exact Nat.le_refl _
   | cons a l=>exact absurd (h a (by simp)) (by omega)
 | succ n ih =>
   intro l hl h
   by_cases hm:n∈l
   · have h1:=List.length_erase_of_mem hm
     have h2:=ih (l.erase n) (hl.erase n) (fun x hx=>by
      have:=h x (List.mem_of_mem_erase hx)
      have hne:=(hl.mem_erase_iff.1 hx).1
      omega)
     have:0<l.length:=List.length_pos_of_mem hm
     omega
   · have:=ih l hl (fun x hx=>by
      have h1:=h x hx
      have:x≠n:=fun e=>hm (e ▸ hx)
      omega)
     omega
theorem Yr {s:List Nd} (wf:WF s) (k n:Nat) (hn:n < s.length):(allF s k n).length≤40 :=
 Nat.le_trans (Xx s.length _ (Zcs wf k n) (X5 wf k n hn)) wf.cap
theorem Ziu (l:List ByteArray) (a:ByteArray) (h:∀ c∈l,c.size≤4):(l.foldl Zx a).size≤a.size+5 * l.length:=by
 induction l generalizing a with
 | nil=>simp
 | cons c l ih =>
   have h1:=ih (Zx a c) (fun x hx=>h x (by simp[hx]))
   have h2:=h c (by simp)
   have h3:(Zx a c).size≤a.size+5:=by
    have e:(⟨#[92]⟩:ByteArray).size=1:=rfl
    unfold Zx
    split <;> simp only[ByteArray.size_append] <;> omega
   simp only[List.foldl_cons,List.length_cons]
   omega
theorem Zft (f:Nat→ByteArray) (g:Nat→Nat) (l:List Nat) (a:ByteArray) (h:∀ c∈l,(f c).size+1≤400 * g c):(l.foldl (ZN f) a).size≤a.size+400 * (l.map g).sum:=by
 induction l generalizing a with
 | nil=>simp
 | cons c l ih =>
   have h1:=ih (ZN f a c) (fun x hx=>h x (by simp[hx]))
   have h2:=h c (by simp)
   have h3:(ZN f a c).size=a.size+1+(f c).size:=by
    have e:(⟨#[32]⟩:ByteArray).size=1:=rfl
    unfold ZN
    simp only[ByteArray.size_append];omega
   simp only[List.foldl_cons,List.map_cons,List.sum_cons]
   omega
theorem Zee {s:List Nd} (wf:WF s) {h:Nat→Nat} {B:Nat} (u:Up s h B):∀ (k n:Nat),n < s.length→h n < k→(Yd s k n).size+1≤400 * (allF s k n).length:=by
 intro k
 induction k with
 | zero=>intro n _ h;omega
 | succ k ih =>
   intro n hn hk
   have hx:s[n]?=some s[n]:=List.getElem?_eq_getElem hn
   generalize s[n]=x at hx
   have hd:=JK n
   have e1:(⟨#[39]⟩:ByteArray).size=1:=rfl
   have e2:(⟨#[60]⟩:ByteArray).size=1:=rfl
   have e3:(⟨#[62]⟩:ByteArray).size=1:=rfl
   simp only[Yd,hx,allF,List.length_cons,List.length_flatMap]
   split
   · have h1:=Ziu x.cs (digB n++⟨#[39]⟩) (fun c hc=>by have:=(wf.chars n x hx).2 c hc;rw[← this.2];exact Zdg c)
     have h2:=(wf.chars n x hx).1
     simp only[ByteArray.size_append] at h1 ⊢
     omega
   · have h1:=Zft (Yd s k) (fun c=>(allF s k c).length) x.ks (⟨#[60]⟩++digB n) (fun c hc=>by
      have:=wf.kid_lt u hx hc
      exact ih c this.1 (by omega))
     rw[Yp hx]
     simp only[ByteArray.size_append] at h1 ⊢
     omega
theorem ZfK {α β:Type} (f g:α→β→α) (l:List β) (a:α) (h:∀ x∈l,∀ a,f a x=g a x):l.foldl f a=l.foldl g a:=by
 induction l generalizing a with
 | nil=>rfl
 | cons c l ih =>
   simp only[List.foldl_cons]
   rw[h c (by simp) a]
   exact ih _ (fun x hx=>h x (by simp[hx]))
theorem ZhV {s:List Nd} (wf:WF s) {h:Nat→Nat} {B:Nat} (u:Up s h B):∀ (k k' n:Nat),h n < k→h n < k'→Yd s k n=Yd s k' n:=by
 intro k
 induction k with
 | zero=>intro k' n hk _;omega
 | succ k ih =>
   intro k' n hk hk'
   obtain⟨j,rfl⟩:∃ j,k'=j+1:=⟨k' - 1,by omega⟩
   simp only[Yd]
   split
   · rfl
   · rename_i x hx
     split
     · rfl
     · congr 1
       refine ZfK _ _ _ _ (fun c hc a=>?_)
       have:=(wf.kid_lt u hx hc).2
       unfold ZN
       rw[ih j c (by omega) (by omega)]
theorem Zb7 {s:List Nd} (wf:WF s) {h:Nat→Nat} {B:Nat} (u:Up s h B) {k n:Nat} (hk:h n < k):Lim (fun c=>Yd s c n) (Yd s k n) :=
 ⟨h n+1,fun c hc=>ZhV wf u c k n (by omega) hk⟩
theorem Zcu {s:List Nd} (wf:WF s) {h:Nat→Nat} {B:Nat} (u:Up s h B):∀ (k k' n:Nat),h n < k→h n < k'→allF s k n=allF s k' n:=by
 intro k
 induction k with
 | zero=>intro k' n hk _;omega
 | succ k ih =>
   intro k' n hk hk'
   obtain⟨j,rfl⟩:∃ j,k'=j+1:=⟨k' - 1,by omega⟩
   simp only[allF]
   congr 1
   rw[List.flatMap_def,List.flatMap_def]
   congr 1
   refine List.map_congr_left (fun c hc=>?_)
   obtain⟨x,hx,hcx⟩:=Y8 hc
   have:=(wf.kid_lt u hx hcx).2
   exact ih j c (by omega) (by omega)
end
section
open Go.RowKit
section
variable {w:World} {F:Nat→Prop} {bd bn cap:Nat} {rn:List RN} {rv:Value} {s:List Nd} {rs:List Sp}
theorem ZhT (wf:WF s) {h:Nat→Nat} {B:Nat} (u:Up s h B):∀ (k n:Nat),n < s.length→h n < k→∀ w:World,Zf w F bd bn cap rn rv s rs →
 Calls Tryz.prog 122 #[.pointer (some ⟨bd,0,none⟩),.int .i64 n] w fun e w'=>e=.returned (.string (Yd s k n))∧Below w.heap.size w w':=by
 intro k
 induction k with
 | zero=>intro n _ hk;omega
 | succ k ih =>
   intro n hn hk w hD
   have hx:s[n]?=some s[n]:=List.getElem?_eq_getElem hn
   generalize s[n]=x at hx
   have hsz:=Zee wf u (k+1) n hn hk
   have hal:=Yr wf (k+1) n hn
   have h40:=wf.cap
   have hch:=wf.chars n x hx
   have hkl:x.ks.length≤40:=Xx 40 _ (wf.nodup n x hx) (fun c hc=>by have:=(wf.kid_lt u hx hc).1;omega)
   simp only[Yd,hx] at hsz ⊢
   cases ht:x.t with
   | true =>
     rw[if_pos rfl]
     rw[ht,if_pos rfl,ByteArray.size_append] at hsz
     exact ZhW hD n x hx ht (by omega) (by unfold lots;omega) (by unfold lots;omega)
   | false =>
     rw[if_neg (by decide)]
     rw[ht,if_neg (by decide),ByteArray.size_append] at hsz
     refine ZhU hD n x (Yd s k) hx ht (by omega) (by unfold lots;omega) (by unfold lots;omega) (fun c hc w1 h1=>?_)
     have:=wf.kid_lt u hx hc
     exact ih c this.1 (by omega) w1 h1
theorem rshow_no (hD:Zf w F bd bn cap rn rv s rs) (n:Int) (hn:isB s n=false) :
 Calls Tryz.prog 77 #[.pointer (some ⟨bd,0,none⟩),.int .i64 n] w fun e w'=>e=.returned (.tuple #[.string ⟨#[]⟩,.agg #[.int .i64 n,.int .i64 1]])∧Below w.heap.size w w':=by
 have HD:=hid hD.faultAt
 clear hD
 go_enter Tryz.func77,Tryz.ntmps77
 go_wp2_with (first
  | (go_at_call 47;refine(ZZ HD.out _).mono ?_;rintro e w' ⟨rfl,rfl⟩)
  | (go_at_call 48;refine(ZK _ _ _).mono ?_;rintro e w' ⟨rfl,rfl⟩))
 go_returns
 refine⟨rfl,?_⟩
 go_grown
theorem ZhJ (wf:WF s) (hD:Zf w F bd bn cap rn rv s rs) (n:Nat) (hn:n < s.length) (b:ByteArray) (hb:Lim (fun k=>Yd s k n) b) :
 Calls Tryz.prog 77 #[.pointer (some ⟨bd,0,none⟩),.int .i64 n] w fun e w'=>e=.returned (.tuple #[.string b,.agg #[.int .i64 0,.int .i64 0]])∧Below w.heap.size w w':=by
 have hi:isB s n=true:=ZC (by omega)
 obtain⟨h,B,u⟩:=wf.up
 have hc:=ZhT (F:=F) (bd:=bd) (bn:=bn) (cap:=cap) (rn:=rn) (rv:=rv) (rs:=rs) wf u (h n+1) n hn (by omega) _ hD.faultAt
 rw[(Zb7 wf u (k:=h n+1) (n:=n) (by omega)).unique hb] at hc
 have HC:=hid hc
 have HD:=hid hD.faultAt
 clear hD hc hb
 go_enter Tryz.func77,Tryz.ntmps77
 go_wp2_with (first
  | (go_at_call 47;refine(ZZ HD.out _).mono ?_;rintro e w' ⟨rfl,rfl⟩)
  | (go_at_call 122
     refine HC.out.mono ?_
     rintro e w1 ⟨rfl,hb⟩
     have hq:w1.heap[w.heap.size]?=some (.cells #[.int .i64 0,.int .i64 0] 32 (0,0)):=(hb.block w.heap.size (by simp)).trans (heap_alloc_new w _)
     have hc2:w1.cell? ⟨w.heap.size,0,none⟩=some (.int .i64 0):=Za hq 0
     have hc3:w1.cell? ⟨w.heap.size,1,none⟩=some (.int .i64 0):=Za hq 1
     have hf2:=Zd hq 0
     have hf3:=Zd hq 1
     have HB:Hid (Below w.heap.size w w1):=((Below.refl _ w).alloc (Nat.le_refl _) _).trans (hb.mono (by simp))
     clear hq hb))
 refine bodyPost_ret (v:=.tuple #[.string b,.agg #[.int .i64 0,.int .i64 0]]) (by simp[results,Tryz.results77,go_sem, *]) rfl ?_
 refine⟨rfl,?_⟩
 have hh:=HB.out
 have hsz:=hh.size
 go_grown
end
end
end Go.Proofs.YtabogkonklplcaaGreatDoor
