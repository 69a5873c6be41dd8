import Derived.Test.YtabogkonklplcaaGreatDoorH16
import Derived.Test.YtabogkonklplcaaGreatDoorH15
import Derived.Test.YtabogkonklplcaaGreatDoorH20
import Derived.Shelf.Spec.SlicesInsert
import Derived.Shelf.Spec.SlicesInsertGrow
import Derived.Test.YtabogkonklplcaaGreatDoorH11
import Derived.Test.YtabogkonklplcaaGreatDoorH23
import Derived.Test.YtabogkonklplcaaGreatDoorH21
namespace Go.Proofs.YtabogkonklplcaaGreatDoor
set_option linter.unusedSimpArgs false
set_option linter.unusedVariables false
set_option maxRecDepth 20000
set_option maxHeartbeats 8000000
section
open Go.RowKit Go.Lib
theorem YP (l:List ByteArray) (hl:∀ c∈l,IsCh c) (hn:l.length < lots) (o:Nat) (ho:o≤l.length) (w:World) :
 Calls Tryz.prog 102 #[.string (catB l),.int .i64 (o:Int)] w fun e w'=>e=.returned (.tuple #[.int .i64 (catB (l.take o)).size,.nilIface])∧Below w.heap.size w w':=by
 refine(Zc5 l hl hn o w).mono ?_
 rintro e w' ⟨hb,⟨o',h1,h2,rfl⟩|⟨h1,rfl⟩⟩
 · obtain rfl:o=o':=by omega
   exact⟨rfl,hb⟩
 · omega
theorem JQ (l:List ByteArray) (hl:∀ c∈l,IsCh c) (hn:l.length < lots) (off:Int) (ho:off < 0∨(l.length:Int) < off) (w:World) :
 Calls Tryz.prog 102 #[.string (catB l),.int .i64 off] w fun e w'=>e=.returned (.tuple #[.int .i64 0,outV off])∧Below w.heap.size w w':=by
 refine(Zc5 l hl hn off w).mono ?_
 rintro e w' ⟨hb,⟨o',h1,h2,rfl⟩|⟨h1,rfl⟩⟩
 · omega
 · exact⟨rfl,hb⟩
theorem Zh7 (l:List ByteArray) (hl:∀ c∈l,IsCh c) (hn:l.length < lots) (off cnt:Int) (ho:off < 0∨(l.length:Int) < off) (t:ByteArray) (w:World) :
 Calls Tryz.prog 113 #[.string (catB l),.int .i64 off,.int .i64 cnt,.string t,.int .i64 30] w fun e w'=>e=.returned (.tuple #[.string ⟨#[]⟩,outV off])∧Below w.heap.size w w':=by
 have C:=hid (fun w1=>JQ l hl hn off ho w1)
 clear hl hn ho
 go_enter Tryz.func113,Tryz.ntmps113
 go_wp2_with (go_at_call 102;refine(C.out _).mono ?_;rintro e w1 ⟨rfl,hb⟩)
 go_ret2
 exact⟨rfl,hb⟩
theorem Zh4 (l:List ByteArray) (hl:∀ c∈l,IsCh c) (hn:l.length < lots) (o:Nat) (ho:o≤l.length) (cnt:Int) (hc:cnt < 0) (t:ByteArray) (w:World) :
 Calls Tryz.prog 113 #[.string (catB l),.int .i64 (o:Int),.int .i64 cnt,.string t,.int .i64 30] w fun e w'=>e=.returned (.tuple #[.string ⟨#[]⟩,outV cnt])∧Below w.heap.size w w':=by
 have C:=hid (fun w1=>YP l hl hn o ho w1)
 have hcd:decide (cnt<0)=true:=decide_eq_true hc
 clear hl hn ho
 go_enter Tryz.func113,Tryz.ntmps113
 go_wp2_with (go_at_call 102;refine(C.out _).mono ?_;rintro e w1 ⟨rfl,hb⟩)
 go_ret2
 exact⟨rfl,hb⟩
theorem join3 (a b c:ByteArray) (w:World) (bk:Nat) (hq:w.heap[bk]?=some (.cells #[.string a,.string b,.string c] 9 (0,0))) (h:a.size+b.size+c.size≤140737488355328) :
 Calls Tryz.prog 161 #[.slice (some ⟨bk,0,none⟩) 3 3,.string ⟨#[]⟩] w fun e w'=>e=.returned (.string (a++b++c))∧Below w.heap.size w w':=by
 have e1:(Lib.join ([a,b,c].map (·.data.toList)) (⟨#[]⟩:ByteArray).data.toList)=(a++b++c).data.toList:=by
  simp[Lib.join]
 have h1:=Tryz.strings_Join bk 0 3 [a,b,c] ⟨#[]⟩ w (fun j x hx=>by
  have:=Za hq j
  rw[Nat.zero_add,this]
  match j,hx with
  | 0,hx=>simp at hx;subst hx;rfl
  | 1,hx=>simp at hx;subst hx;rfl
  | 2,hx=>simp at hx;subst hx;rfl
  | k+3,hx=>simp at hx) (Zc hq) (by simp) (by simp) (by
    rw[e1]
    have e2:(a++b++c).data.toList.length=(a++b++c).size:=by rw[Array.length_toList];rfl
    rw[e2,ByteArray.size_append,ByteArray.size_append]
    omega)
 rw[e1] at h1
 exact h1
theorem Zh6 (l:List ByteArray) (hl:∀ c∈l,IsCh c) (hn:l.length≤30) (o c:Nat) (cnt:Int) (ho:o≤l.length) (hc0:0≤cnt) (hcc:(c:Int)=cnt) (hcl:o+c≤l.length) (t:ByteArray) (ht:t.size < lots) (hno:∀ l',¬ YD (30 - o - (l.length - (o+c))) t l') (w:World) (hT:Tabs w) :
 Calls Tryz.prog 113 #[.string (catB l),.int .i64 (o:Int),.int .i64 cnt,.string t,.int .i64 30] w fun e w'=>∃ k:Int,e=.returned (.tuple #[.string ⟨#[]⟩,Jb k])∧Below w.heap.size w w':=by
 have hoc:o+c≤l.length:=by omega
 have hn':l.length<lots:=by unfold lots;omega
 have hnd:(l.drop o).length<lots:=by simp;omega
 have hld:∀ c∈l.drop o,IsCh c:=fun c hc=>hl c (List.mem_of_mem_drop hc)
 have hldd:∀ d∈l.drop (o+c),IsCh d:=fun d hd=>hl d (List.mem_of_mem_drop hd)
 have C1:=hid (fun w1=>YP l hl hn' o ho w1)
 have C2:=hid (fun w1=>YP (l.drop o) hld hnd c (by simp;omega) w1)
 have C3:=hid (fun w1=>Y6 (l.drop (o+c)) hldd (by simp;omega) w1)
 have CK:=hid (fun w1 (hb:Below w.heap.size w w1)=>XK (30 - o - (l.length - (o+c))) (by omega) t w1 ht (hT.below hb))
 have hcd:decide (cnt<0)=false:=decide_eq_false (by omega)
 have s1:=YE l o
 have s2:=YE (l.drop o) c
 rw[List.drop_drop] at s2
 have z1:=YM l o
 have z2:=YM (l.drop o) c
 have z3:=Z3 l hl
 have z4:=Z3 (l.drop o) hld
 have z5:=Z3 (l.drop (o+c)) hldd
 have z6:(catB (l.take o)).size≤4*30:=by have:=Z3 (l.take o) (fun c hc=>hl c (List.mem_of_mem_take hc));simp at this;omega
 have hdl:(l.drop (o+c)).length=l.length - (o+c):=by simp
 obtain⟨p,hp⟩:∃ p,(catB (l.take o)).size=p:=⟨_,rfl⟩
 obtain⟨q,hq⟩:∃ q,(catB ((l.drop o).take c)).size=q:=⟨_,rfl⟩
 rw[hp] at C1 s1 z1 z6
 rw[hq] at s2 z2
 rw[hq,hcc] at C2
 obtain⟨A,hA⟩:∃ A,catB (l.take o)=A:=⟨_,rfl⟩
 obtain⟨B,hB⟩:∃ B,catB (l.drop o)=B:=⟨_,rfl⟩
 obtain⟨D,hD⟩:∃ D,catB (l.drop (o+c))=D:=⟨_,rfl⟩
 obtain⟨S,hS⟩:∃ S,catB l=S:=⟨_,rfl⟩
 have CAT:Hid (∀ lf,catB lf=t→A++t++D=catB (l.take o++lf++l.drop (o+c))):=fun lf hf=>by rw[Yo,Yo,hf,hA,hD]
 rw[hA,hS] at s1
 rw[hB] at s1
 rw[hB,hD] at s2
 rw[hS] at C1 z1 z3 ⊢
 rw[hB] at C2 z2 z4
 rw[hD] at C3 z5
 have hA2:A.size=p:=by rw[← hA];exact hp
 have s11:=s1.1
 have s12:=s1.2
 have s22:=s2.2
 have pI:(p:Int)≤S.size:=by omega
 have qI:(q:Int)≤B.size:=by omega
 have oI:(o:Int)≤30:=by omega
 have dI:((l.length - (o+c):Nat):Int)≤30:=by omega
 have hm:(30:Int) - (o:Int) - ((l.length - (o+c):Nat):Int)=((30 - o - (l.length - (o+c)):Nat):Int):=by omega
 have htz:t.size≤2000000:=by unfold lots at ht;omega
 clear hl hld hldd hT ht hp hq hA hB hD hS s1 s2 hn' hnd
 go_enter Tryz.func113,Tryz.ntmps113
 go_wp2_with (go_at_call 102;refine(C1.out _).mono ?_;clear C1;rintro e w1 ⟨rfl,hb0⟩)
 go_region
 have hb1:=hb0.drew
 clear hb0
 go_wp2_with (first
  | (go_at_call 102;refine(C2.out _).mono ?_;clear C2;rintro e w2 ⟨rfl,hb2⟩
     have HB2:=hid (hb1.trans (hb2.mono hb1.size)))
  | (go_at_call 22;refine(Zaz _ _).mono ?_;rintro e w3 ⟨rfl,hw3⟩
     replace hw3:=hw3.symm
     subst hw3
     have HB3:=hid HB2.out)
  | (go_at_call 105;refine(C3.out _).mono ?_;rintro e w4 ⟨rfl,hb4⟩
     have HB4:=hid (HB3.out.trans (hb4.mono HB3.out.size)))
  | (go_at_call 144
     refine(CK.out _ HB4.out).mono ?_
     rintro e w5 ⟨hb5,⟨l',hl',_⟩|⟨_,kk,rfl⟩⟩;(first|exact absurd hl' (hno l')|skip)
     have HB5:=hid (HB4.out.trans (hb5.mono HB4.out.size))))
 go_ret2
 exact⟨kk,rfl,HB5.out⟩
theorem Zel (l:List ByteArray) (hl:∀ c∈l,IsCh c) (hn:l.length≤30) (o c:Nat) (cnt:Int) (ho:o≤l.length) (hc0:0≤cnt) (hcc:(c:Int)=cnt) (hcl:o+c≤l.length) (t:ByteArray) (ht:t.size < lots) (lf:List ByteArray) (hyes:YD (30 - o - (l.length - (o+c))) t lf) (w:World) (hT:Tabs w) :
 Calls Tryz.prog 113 #[.string (catB l),.int .i64 (o:Int),.int .i64 cnt,.string t,.int .i64 30] w fun e w'=>e=.returned (.tuple #[.string (catB (l.take o++lf++l.drop (o+c))),.nilIface])∧Below w.heap.size w w':=by
 have hoc:o+c≤l.length:=by omega
 have hn':l.length<lots:=by unfold lots;omega
 have hnd:(l.drop o).length<lots:=by simp;omega
 have hld:∀ c∈l.drop o,IsCh c:=fun c hc=>hl c (List.mem_of_mem_drop hc)
 have hldd:∀ d∈l.drop (o+c),IsCh d:=fun d hd=>hl d (List.mem_of_mem_drop hd)
 have C1:=hid (fun w1=>YP l hl hn' o ho w1)
 have C2:=hid (fun w1=>YP (l.drop o) hld hnd c (by simp;omega) w1)
 have C3:=hid (fun w1=>Y6 (l.drop (o+c)) hldd (by simp;omega) w1)
 have CK:=hid (fun w1 (hb:Below w.heap.size w w1)=>XK (30 - o - (l.length - (o+c))) (by omega) t w1 ht (hT.below hb))
 have hcd:decide (cnt<0)=false:=decide_eq_false (by omega)
 have s1:=YE l o
 have s2:=YE (l.drop o) c
 rw[List.drop_drop] at s2
 have z1:=YM l o
 have z2:=YM (l.drop o) c
 have z3:=Z3 l hl
 have z4:=Z3 (l.drop o) hld
 have z5:=Z3 (l.drop (o+c)) hldd
 have z6:(catB (l.take o)).size≤4*30:=by have:=Z3 (l.take o) (fun c hc=>hl c (List.mem_of_mem_take hc));simp at this;omega
 have hdl:(l.drop (o+c)).length=l.length - (o+c):=by simp
 obtain⟨p,hp⟩:∃ p,(catB (l.take o)).size=p:=⟨_,rfl⟩
 obtain⟨q,hq⟩:∃ q,(catB ((l.drop o).take c)).size=q:=⟨_,rfl⟩
 rw[hp] at C1 s1 z1 z6
 rw[hq] at s2 z2
 rw[hq,hcc] at C2
 obtain⟨A,hA⟩:∃ A,catB (l.take o)=A:=⟨_,rfl⟩
 obtain⟨B,hB⟩:∃ B,catB (l.drop o)=B:=⟨_,rfl⟩
 obtain⟨D,hD⟩:∃ D,catB (l.drop (o+c))=D:=⟨_,rfl⟩
 obtain⟨S,hS⟩:∃ S,catB l=S:=⟨_,rfl⟩
 have CAT:Hid (∀ lf,catB lf=t→A++t++D=catB (l.take o++lf++l.drop (o+c))):=fun lf hf=>by rw[Yo,Yo,hf,hA,hD]
 rw[hA,hS] at s1
 rw[hB] at s1
 rw[hB,hD] at s2
 rw[hS] at C1 z1 z3 ⊢
 rw[hB] at C2 z2 z4
 rw[hD] at C3 z5
 have hA2:A.size=p:=by rw[← hA];exact hp
 have s11:=s1.1
 have s12:=s1.2
 have s22:=s2.2
 have pI:(p:Int)≤S.size:=by omega
 have qI:(q:Int)≤B.size:=by omega
 have oI:(o:Int)≤30:=by omega
 have dI:((l.length - (o+c):Nat):Int)≤30:=by omega
 have hm:(30:Int) - (o:Int) - ((l.length - (o+c):Nat):Int)=((30 - o - (l.length - (o+c)):Nat):Int):=by omega
 have htz:t.size≤2000000:=by unfold lots at ht;omega
 clear hl hld hldd hT ht hp hq hA hB hD hS s1 s2 hn' hnd
 go_enter Tryz.func113,Tryz.ntmps113
 go_wp2_with (go_at_call 102;refine(C1.out _).mono ?_;clear C1;rintro e w1 ⟨rfl,hb0⟩)
 go_region
 have hb1:=hb0.drew
 clear hb0
 go_wp2_with (first
  | (go_at_call 102;refine(C2.out _).mono ?_;clear C2;rintro e w2 ⟨rfl,hb2⟩
     have HB2:=hid (hb1.trans (hb2.mono hb1.size)))
  | (go_at_call 22;refine(Zaz _ _).mono ?_;rintro e w3 ⟨rfl,hw3⟩
     replace hw3:=hw3.symm
     subst hw3
     have HB3:=hid HB2.out)
  | (go_at_call 105;refine(C3.out _).mono ?_;rintro e w4 ⟨rfl,hb4⟩
     have HB4:=hid (HB3.out.trans (hb4.mono HB3.out.size)))
  | (go_at_call 144
     refine(CK.out _ HB4.out).mono ?_
     rintro e w5 ⟨hb5,⟨l',hl',rfl⟩|⟨hn5,_⟩⟩ <;> (first|exact absurd hyes (hn5 lf)|skip)
     have HB5:=hid (HB4.out.trans (hb5.mono HB4.out.size)))
  | (go_at_call 161
     refine(join3 A t D _ w5.heap.size (heap_alloc_new w5 _) (by omega)).mono ?_
     rintro e w6 ⟨rfl,hb6⟩))
 go_ret2
 have hf:catB lf=t:=JF t.size t lf (Nat.le_refl _) hyes.1
 exact⟨by rw[← CAT.out lf hf];rfl,(HB5.out.alloc HB5.out.size _).trans (hb6.mono (by have:=HB5.out.size;simp;omega))⟩
end
section
open Go.RowKit Go.Lib
theorem Zh5 (l:List ByteArray) (hl:∀ c∈l,IsCh c) (hn:l.length≤30) (o c:Nat) (cnt:Int) (ho:o≤l.length) (hc0:0≤cnt) (hcc:(c:Int)=(l.length:Int) - o) (hcl:(l.length:Int) - o < cnt) (t:ByteArray) (ht:t.size < lots) (hno:∀ l',¬ YD (30 - o - (l.length - (o+c))) t l') (w:World) (hT:Tabs w) :
 Calls Tryz.prog 113 #[.string (catB l),.int .i64 (o:Int),.int .i64 cnt,.string t,.int .i64 30] w fun e w'=>∃ k:Int,e=.returned (.tuple #[.string ⟨#[]⟩,Jb k])∧Below w.heap.size w w':=by
 have hoc:o+c≤l.length:=by omega
 have hn':l.length<lots:=by unfold lots;omega
 have hnd:(l.drop o).length<lots:=by simp;omega
 have hld:∀ c∈l.drop o,IsCh c:=fun c hc=>hl c (List.mem_of_mem_drop hc)
 have hldd:∀ d∈l.drop (o+c),IsCh d:=fun d hd=>hl d (List.mem_of_mem_drop hd)
 have C1:=hid (fun w1=>YP l hl hn' o ho w1)
 have C2:=hid (fun w1=>JQ (l.drop o) hld hnd cnt (.inr (by simp;omega)) w1)
 have C3:=hid (fun w1=>Y6 (l.drop (o+c)) hldd (by simp;omega) w1)
 have CK:=hid (fun w1 (hb:Below w.heap.size w w1)=>XK (30 - o - (l.length - (o+c))) (by omega) t w1 ht (hT.below hb))
 have hcd:decide (cnt<0)=false:=decide_eq_false (by omega)
 have s1:=YE l o
 have s2:=YE (l.drop o) c
 rw[List.drop_drop] at s2
 have z1:=YM l o
 have z2:=YM (l.drop o) c
 have z3:=Z3 l hl
 have z4:=Z3 (l.drop o) hld
 have z5:=Z3 (l.drop (o+c)) hldd
 have z6:(catB (l.take o)).size≤4*30:=by have:=Z3 (l.take o) (fun c hc=>hl c (List.mem_of_mem_take hc));simp at this;omega
 have hdl:(l.drop (o+c)).length=l.length - (o+c):=by simp
 obtain⟨p,hp⟩:∃ p,(catB (l.take o)).size=p:=⟨_,rfl⟩
 obtain⟨q,hq⟩:∃ q,(catB ((l.drop o).take c)).size=q:=⟨_,rfl⟩
 rw[hp] at C1 s1 z1 z6
 rw[hq] at s2 z2
 have hqB:q=(catB (l.drop o)).size:=by rw[← hq,List.take_of_length_le (by simp;omega)]
 obtain⟨A,hA⟩:∃ A,catB (l.take o)=A:=⟨_,rfl⟩
 obtain⟨B,hB⟩:∃ B,catB (l.drop o)=B:=⟨_,rfl⟩
 obtain⟨D,hD⟩:∃ D,catB (l.drop (o+c))=D:=⟨_,rfl⟩
 obtain⟨S,hS⟩:∃ S,catB l=S:=⟨_,rfl⟩
 have CAT:Hid (∀ lf,catB lf=t→A++t++D=catB (l.take o++lf++l.drop (o+c))):=fun lf hf=>by rw[Yo,Yo,hf,hA,hD]
 rw[hA,hS] at s1
 rw[hB] at s1
 rw[hB,hD] at s2
 rw[hS] at C1 z1 z3 ⊢
 rw[hB] at C2 z2 z4
 rw[hD] at C3 z5
 have hA2:A.size=p:=by rw[← hA];exact hp
 have s11:=s1.1
 have s12:=s1.2
 have s22:=s2.2
 rw[hB] at hqB
 rw[hqB] at s22
 have hDe:ByteArray.empty=D:=by rw[← s22];simp
 subst hDe
 have pI:(p:Int)≤S.size:=by omega
 have qI:(q:Int)≤B.size:=by omega
 have oI:(o:Int)≤30:=by omega
 have dI:((l.length - (o+c):Nat):Int)≤30:=by omega
 have hm:(30:Int) - (o:Int) - ((l.length - (o+c):Nat):Int)=((30 - o - (l.length - (o+c)):Nat):Int):=by omega
 have htz:t.size≤2000000:=by unfold lots at ht;omega
 clear hl hld hldd hT ht hp hq hA hB hD hS s1 s2 hn' hnd s22
 go_enter Tryz.func113,Tryz.ntmps113
 go_wp2_with (go_at_call 102;refine(C1.out _).mono ?_;clear C1;rintro e w1 ⟨rfl,hb0⟩)
 go_region
 have hb1:=hb0.drew
 clear hb0
 go_wp2_with (first
  | (go_at_call 102;refine(C2.out _).mono ?_;clear C2;rintro e w2 ⟨rfl,hb2⟩
     have HB2:=hid (hb1.trans (hb2.mono hb1.size)))
  | (go_at_call 22;refine(is_out _ 0 _).mono ?_;rintro e w3 ⟨rfl,hb3⟩
     have HB3:=hid (HB2.out.trans (hb3.mono HB2.out.size)))
  | (go_at_call 105;refine(C3.out _).mono ?_;rintro e w4 ⟨rfl,hb4⟩
     have HB4:=hid (HB3.out.trans (hb4.mono HB3.out.size)))
  | (go_at_call 144
     refine(CK.out _ HB4.out).mono ?_
     rintro e w5 ⟨hb5,⟨l',hl',_⟩|⟨_,kk,rfl⟩⟩;(first|exact absurd hl' (hno l')|skip)
     have HB5:=hid (HB4.out.trans (hb5.mono HB4.out.size))))
 go_ret2
 exact⟨kk,rfl,HB5.out⟩
theorem Zh8 (l:List ByteArray) (hl:∀ c∈l,IsCh c) (hn:l.length≤30) (o c:Nat) (cnt:Int) (ho:o≤l.length) (hc0:0≤cnt) (hcc:(c:Int)=(l.length:Int) - o) (hcl:(l.length:Int) - o < cnt) (t:ByteArray) (ht:t.size < lots) (lf:List ByteArray) (hyes:YD (30 - o - (l.length - (o+c))) t lf) (w:World) (hT:Tabs w) :
 Calls Tryz.prog 113 #[.string (catB l),.int .i64 (o:Int),.int .i64 cnt,.string t,.int .i64 30] w fun e w'=>e=.returned (.tuple #[.string (catB (l.take o++lf++l.drop (o+c))),.nilIface])∧Below w.heap.size w w':=by
 have hoc:o+c≤l.length:=by omega
 have hn':l.length<lots:=by unfold lots;omega
 have hnd:(l.drop o).length<lots:=by simp;omega
 have hld:∀ c∈l.drop o,IsCh c:=fun c hc=>hl c (List.mem_of_mem_drop hc)
 have hldd:∀ d∈l.drop (o+c),IsCh d:=fun d hd=>hl d (List.mem_of_mem_drop hd)
 have C1:=hid (fun w1=>YP l hl hn' o ho w1)
 have C2:=hid (fun w1=>JQ (l.drop o) hld hnd cnt (.inr (by simp;omega)) w1)
 have C3:=hid (fun w1=>Y6 (l.drop (o+c)) hldd (by simp;omega) w1)
 have CK:=hid (fun w1 (hb:Below w.heap.size w w1)=>XK (30 - o - (l.length - (o+c))) (by omega) t w1 ht (hT.below hb))
 have hcd:decide (cnt<0)=false:=decide_eq_false (by omega)
 have s1:=YE l o
 have s2:=YE (l.drop o) c
 rw[List.drop_drop] at s2
 have z1:=YM l o
 have z2:=YM (l.drop o) c
 have z3:=Z3 l hl
 have z4:=Z3 (l.drop o) hld
 have z5:=Z3 (l.drop (o+c)) hldd
 have z6:(catB (l.take o)).size≤4*30:=by have:=Z3 (l.take o) (fun c hc=>hl c (List.mem_of_mem_take hc));simp at this;omega
 have hdl:(l.drop (o+c)).length=l.length - (o+c):=by simp
 obtain⟨p,hp⟩:∃ p,(catB (l.take o)).size=p:=⟨_,rfl⟩
 obtain⟨q,hq⟩:∃ q,(catB ((l.drop o).take c)).size=q:=⟨_,rfl⟩
 rw[hp] at C1 s1 z1 z6
 rw[hq] at s2 z2
 have hqB:q=(catB (l.drop o)).size:=by rw[← hq,List.take_of_length_le (by simp;omega)]
 obtain⟨A,hA⟩:∃ A,catB (l.take o)=A:=⟨_,rfl⟩
 obtain⟨B,hB⟩:∃ B,catB (l.drop o)=B:=⟨_,rfl⟩
 obtain⟨D,hD⟩:∃ D,catB (l.drop (o+c))=D:=⟨_,rfl⟩
 obtain⟨S,hS⟩:∃ S,catB l=S:=⟨_,rfl⟩
 have CAT:Hid (∀ lf,catB lf=t→A++t++D=catB (l.take o++lf++l.drop (o+c))):=fun lf hf=>by rw[Yo,Yo,hf,hA,hD]
 rw[hA,hS] at s1
 rw[hB] at s1
 rw[hB,hD] at s2
 rw[hS] at C1 z1 z3 ⊢
 rw[hB] at C2 z2 z4
 rw[hD] at C3 z5
 have hA2:A.size=p:=by rw[← hA];exact hp
 have s11:=s1.1
 have s12:=s1.2
 have s22:=s2.2
 rw[hB] at hqB
 rw[hqB] at s22
 have hDe:ByteArray.empty=D:=by rw[← s22];simp
 subst hDe
 have pI:(p:Int)≤S.size:=by omega
 have qI:(q:Int)≤B.size:=by omega
 have oI:(o:Int)≤30:=by omega
 have dI:((l.length - (o+c):Nat):Int)≤30:=by omega
 have hm:(30:Int) - (o:Int) - ((l.length - (o+c):Nat):Int)=((30 - o - (l.length - (o+c)):Nat):Int):=by omega
 have htz:t.size≤2000000:=by unfold lots at ht;omega
 clear hl hld hldd hT ht hp hq hA hB hD hS s1 s2 hn' hnd s22
 go_enter Tryz.func113,Tryz.ntmps113
 go_wp2_with (go_at_call 102;refine(C1.out _).mono ?_;clear C1;rintro e w1 ⟨rfl,hb0⟩)
 go_region
 have hb1:=hb0.drew
 clear hb0
 go_wp2_with (first
  | (go_at_call 102;refine(C2.out _).mono ?_;clear C2;rintro e w2 ⟨rfl,hb2⟩
     have HB2:=hid (hb1.trans (hb2.mono hb1.size)))
  | (go_at_call 22;refine(is_out _ 0 _).mono ?_;rintro e w3 ⟨rfl,hb3⟩
     have HB3:=hid (HB2.out.trans (hb3.mono HB2.out.size)))
  | (go_at_call 105;refine(C3.out _).mono ?_;rintro e w4 ⟨rfl,hb4⟩
     have HB4:=hid (HB3.out.trans (hb4.mono HB3.out.size)))
  | (go_at_call 144
     refine(CK.out _ HB4.out).mono ?_
     rintro e w5 ⟨hb5,⟨l',hl',rfl⟩|⟨hn5,_⟩⟩ <;> (first|exact absurd hyes (hn5 lf)|skip)
     have HB5:=hid (HB4.out.trans (hb5.mono HB4.out.size)))
  | (go_at_call 161
     refine(join3 A t ByteArray.empty _ w5.heap.size (heap_alloc_new w5 _) (by omega)).mono ?_
     rintro e w6 ⟨rfl,hb6⟩))
 go_ret2
 have hf:catB lf=t:=JF t.size t lf (Nat.le_refl _) hyes.1
 exact⟨by rw[← CAT.out lf hf,ByteArray.append_empty];rfl,(HB5.out.alloc HB5.out.size _).trans (hb6.mono (by have:=HB5.out.size;simp;omega))⟩
end
section
open Go.RowKit Go.Shelf
def Yv:Go.Shelf.Ren:=⟨fun | 21=>156 | 27=>182 | 28=>183 | 35=>194 | 39=>181 | n=>n,fun | 22=>24 | 3=>3 | 4=>4 | 0=>0 | n=>n,fun | n=>n⟩
theorem Zay:Go.Proofs.Lays2.n21 Tryz.prog Yv:={
 mixed:=by kernel_rfl
 f21:=Tryz.func156.trans (congrArg some (by kernel_rfl))
 f27:=Tryz.func182.trans (congrArg some (by kernel_rfl))
 f28:=Tryz.func183.trans (congrArg some (by kernel_rfl))
 f35:=Tryz.func194.trans (congrArg some (by kernel_rfl))
 f39:=Tryz.func181.trans (congrArg some (by kernel_rfl))
 t0:=Tryz.underlying0
 a0:=Tryz.isAgg0
 z0:=Tryz.sizeOf0
 v0:=Tryz.zeroValue0
 t3:=Tryz.underlying3
 a3:=Tryz.isAgg3
 z3:=Tryz.sizeOf3
 v3:=Tryz.zeroValue3
 t4:=Tryz.underlying4
 a4:=Tryz.isAgg4
 z4:=Tryz.sizeOf4
 v4:=Tryz.zeroValue4
 t22:=Tryz.underlying24
 a22:=Tryz.isAgg24
 z22:=Tryz.sizeOf24
 v22:=Tryz.zeroValue24
 i3:=by kernel_rfl }
theorem ZeT (m:Nat):(Builtin.zeroCells (Value.int .i64 0).cells m).size=m:=by simp [Builtin.zeroCells,Value.cells]
def Xe (l:List Nat) (k j:Nat):List Nat:=l.take k++j::l.drop k
theorem J3 (l:List Nat) (k j:Nat) (h:k≤l.length):(Xe l k j).length=l.length+1:=by simp [Xe];omega
theorem ZaM (l:List Nat) (k j:Nat):Zg (Xe l k j)=(Zg l).take k++Value.int .i64 (j:Int)::(Zg l).drop k:=by simp [Zg,Xe,List.map_take,List.map_drop]
def Jr (v:Value) (ks:List Nat) (k j:Nat) (w:World) (e:Ending) (w':World):Prop :=
 ∃ g c,e=.returned (.slice (some ⟨g,0,none⟩) (ks.length+1) c)∧w'.ownsRow 0 3 1 (.slice (some ⟨g,0,none⟩) (ks.length+1) c) (ks.length+1) (Zg (Xe ks k j))∧Zb (fun b=>v.ownBlock=some b) w w'∧(v.ownBlock=some g∨w.heap.size≤g)
theorem Zdk (l:List Nat):∀ v∈Zg l,v.oneCell'=true:=by
 intro v hv
 simp only[Zg,List.mem_map] at hv
 obtain⟨a,_,rfl⟩:=hv
 rfl
section
variable {w:World} {vb:Nat}
theorem ZaK {j:Nat} (hvb:w.heap[vb]?=some (.cells #[.int .i64 (j:Int)] 3 (0,0))):∀ i v,[Value.int .i64 (j:Int)][i]?=some v→w.cell? ⟨vb,0+i,none⟩=some v:=by
 intro i v h
 cases i with
 | zero=>simp at h;subst h;exact Za hvb 0
 | succ i=>simp at h
theorem Zdi (base:Option Addr) (n c j:Nat) (ks:List Nat) (hvb:w.heap[vb]?=some (.cells #[.int .i64 (j:Int)] 3 (0,0))) (hn:ks.length=n) (hnc:n≤c) (hroom:c < n+1) (hbig:n < lots) (hnil:base=none→n=0)
 (hcs:∀ a,base=some a→∀ i v,(Zg ks)[i]?=some v→w.cell? (a.add i)=some v) :
 Calls Tryz.prog 156 #[.slice base n c,.int .i64 (n:Int),.slice (some ⟨vb,0,none⟩) 1 1] w (Jr (.slice base n c) ks n j w):=by
 have C:=Any2.slices_Insert_int_end_grow Zay base n c vb 0 1 1 (Zg ks) [.int .i64 (j:Int)] w (by decide) hnc hroom (by unfold lots at hbig;omega) (by simp[hn]) rfl hnil hcs (ZaK hvb) (by simp[Value.oneCell'])
 refine C.mono ?_
 rintro e w' ⟨rfl,rfl⟩
 have hG:=grownCap_ge w (n+1) c (Yv.t 3)
 have hG2:=grownCap_le_maxLen w (n+1) c (Yv.t 3) (by unfold maxLen;unfold lots at hbig;omega)
 generalize grownCap w (n+1) c (Yv.t 3)=G at hG hG2
 refine⟨w.heap.size,G,by rw[hn],?_,((Zb.refl _ w).drew).alloc _,.inr (Nat.le_refl _)⟩
 refine⟨by rw[intsV_length,J3 _ _ _ (by omega)];omega,.inr ⟨w.heap.size,G,_,rfl,Nat.zero_le _,heap_alloc_new w.drew _,by omega,hG2,?_,?_⟩⟩
 · simp[ZeT,hn];omega
 · have:Zg (Xe ks n j)=Zg ks++[.int .i64 (j:Int)]:=by
    rw[ZaM,List.take_of_length_le (by simp[hn]),List.drop_of_length_le (by simp[hn])]
   rw[this]
   simp only[Array.toList_append,List.toList_toArray,Nat.mul_one]
   rw[List.take_append_of_le_length (by simp),List.take_of_length_le (by simp)]
theorem Zf8 (g n c j:Nat) (ks:List Nat) (cur:Array Value) (hvb:w.heap[vb]?=some (.cells #[.int .i64 (j:Int)] 3 (0,0))) (hn:ks.length=n) (hroom:n+1≤c) (hc:c≤maxLen) (hcur:w.heap[g]?=some (.cells cur 3 (0,0))) (hsz:cur.size=c) (ht:cur.toList.take n=Zg ks) :
 Calls Tryz.prog 156 #[.slice (some ⟨g,0,none⟩) n c,.int .i64 (n:Int),.slice (some ⟨vb,0,none⟩) 1 1] w (Jr (.slice (some ⟨g,0,none⟩) n c) ks n j w):=by
 have C:=Any2.slices_Insert_int_end_room Zay g 0 n c vb 0 1 1 [.int .i64 (j:Int)] w (by decide) hroom (by unfold maxLen at hc;omega) rfl
  (fun i hi=>by rw[Za hcur,Array.getElem?_eq_getElem (by omega)];rfl) (fun i hi=>Zd hcur _) (ZaK hvb) (by simp[Value.oneCell'])
 refine C.mono ?_
 rintro e w' ⟨rfl,rfl⟩
 obtain⟨cur',h1,h2,h3⟩:=Xt g 3 [.int .i64 (j:Int)] n w cur hcur (by simp;omega)
 rw[Nat.zero_add]
 refine⟨g,c,by rw[hn],?_,Xu g _ _ _ (Zb.refl _ w) rfl,.inl rfl⟩
 refine⟨by rw[intsV_length,J3 _ _ _ (by omega)];omega,.inr ⟨g,c,cur',rfl,Nat.zero_le _,h1,by omega,hc,by omega,?_⟩⟩
 have:Zg (Xe ks n j)=Zg ks++[.int .i64 (j:Int)]:=by
  rw[ZaM,List.take_of_length_le (by simp[hn]),List.drop_of_length_le (by simp[hn])]
 rw[this,h3,ht,Nat.mul_one,hn,List.take_append_of_le_length (by simp[hn]),List.take_of_length_le (by simp[hn])]
theorem Zf9 (g n c k j:Nat) (ks:List Nat) (cur:Array Value) (hvb:w.heap[vb]?=some (.cells #[.int .i64 (j:Int)] 3 (0,0))) (hne:vb≠g) (hn:ks.length=n) (hk:k < n) (hroom:n+1≤c) (hc:c≤maxLen) (hcur:w.heap[g]?=some (.cells cur 3 (0,0))) (hsz:cur.size=c) (ht:cur.toList.take n=Zg ks) :
 Calls Tryz.prog 156 #[.slice (some ⟨g,0,none⟩) n c,.int .i64 (k:Int),.slice (some ⟨vb,0,none⟩) 1 1] w (Jr (.slice (some ⟨g,0,none⟩) n c) ks k j w):=by
 have hcs:∀ i v,(Zg ks)[i]?=some v→w.cell? ⟨g,0+i,none⟩=some v:=by
  intro i v hi
  have hil:=(List.getElem?_eq_some_iff.1 hi).1
  simp[hn] at hil
  rw[← ht,List.getElem?_take_of_lt hil] at hi
  rw[Za hcur,Nat.zero_add,← Array.getElem?_toList]
  exact hi
 have C:=Any2.slices_Insert_int_shift Zay g 0 n c k vb 0 1 1 (Zg ks) [.int .i64 (j:Int)] w hk (by decide) hroom (by unfold maxLen at hc;omega) hne (by simp[hn]) rfl hcs
  (fun i hi=>by rw[Za hcur,Array.getElem?_eq_getElem (by omega)];rfl) (fun i hi=>Zd hcur _) (ZaK hvb) (Zdk ks) (by simp[Value.oneCell'])
  3 3 1 c (by simp[World.shape?,hvb]) (by simp[World.shape?,hcur,hsz]) (by omega) (Zd hvb _) (Zd hvb _)
 refine C.mono ?_
 rintro e w' ⟨rfl,rfl⟩
 have hdl:((Zg ks).drop k).length=n - k:=by simp[hn]
 obtain⟨cur1,h1,h2,h3⟩:=Xt g 3 ((Zg ks).drop k) (k+1) w.drew cur hcur (by omega)
 obtain⟨cur2,g1,g2,g3⟩:=Xt g 3 [.int .i64 (j:Int)] k _ cur1 h1 (by simp;omega)
 rw[Nat.zero_add,Nat.zero_add]
 refine⟨g,c,by rw[hn],?_,Xu g _ _ _ (Xu g _ _ _ ((Zb.refl _ w).drew) rfl) rfl,.inl rfl⟩
 refine⟨by rw[intsV_length,J3 _ _ _ (by omega)];omega,.inr ⟨g,c,cur2,rfl,Nat.zero_le _,g1,by omega,hc,by omega,?_⟩⟩
 have e1:cur.toList.take k=(Zg ks).take k:=by rw[← ht,List.take_take,Nat.min_eq_left (by omega)]
 have hcl:cur.toList.length=c:=by simp[hsz]
 have e2:cur1.toList.take k=(Zg ks).take k:=by
  rw[h3,List.append_assoc,List.take_append_of_le_length (by simp;omega),List.take_take,Nat.min_eq_left (by omega),e1]
 have e3:cur1.toList.drop (k+1)=(Zg ks).drop k++cur.toList.drop (k+1+((Zg ks).drop k).length):=by
  rw[h3,List.append_assoc,List.drop_left' (by rw[List.length_take];omega)]
 rw[g3,ZaM,e2,Nat.mul_one,hn]
 simp only[List.length_singleton]
 rw[e3,List.append_assoc,List.singleton_append]
 have hl:((Zg ks).take k++Value.int .i64 (j:Int)::(Zg ks).drop k).length=n+1:=by simp[hn];omega
 rw[← List.cons_append,← List.append_assoc,← hl,List.take_append_of_le_length (Nat.le_refl _),List.take_of_length_le (Nat.le_refl _)]
theorem ins_grow (g n c k j:Nat) (ks:List Nat) (cur:Array Value) (hvb:w.heap[vb]?=some (.cells #[.int .i64 (j:Int)] 3 (0,0))) (hn:ks.length=n) (hk:k < n) (hnc:n≤c) (hroom:c < n+1) (hbig:n < lots) (hcur:w.heap[g]?=some (.cells cur 3 (0,0))) (ht:cur.toList.take n=Zg ks) :
 Calls Tryz.prog 156 #[.slice (some ⟨g,0,none⟩) n c,.int .i64 (k:Int),.slice (some ⟨vb,0,none⟩) 1 1] w (Jr (.slice (some ⟨g,0,none⟩) n c) ks k j w):=by
 have hcs:∀ i v,(Zg ks)[i]?=some v→w.cell? ⟨g,0+i,none⟩=some v:=by
  intro i v hi
  have hil:=(List.getElem?_eq_some_iff.1 hi).1
  simp[hn] at hil
  rw[← ht,List.getElem?_take_of_lt hil] at hi
  rw[Za hcur,Nat.zero_add,← Array.getElem?_toList]
  exact hi
 have C:=Any2.slices_Insert_int_grow Zay g 0 n c k vb 0 1 1 (Zg ks) [.int .i64 (j:Int)] w hk (by decide) hnc hroom (by unfold lots at hbig;omega) (by simp[hn]) rfl hcs (ZaK hvb) (Zdk ks) (by simp[Value.oneCell'])
 refine C.mono ?_
 rintro e w' ⟨rfl,rfl⟩
 have hG:=grownCap_ge w (n+1) c (Yv.t 3)
 have hG2:=grownCap_le_maxLen w (n+1) c (Yv.t 3) (by unfold maxLen;unfold lots at hbig;omega)
 generalize grownCap w (n+1) c (Yv.t 3)=G at hG hG2
 obtain⟨R,hR⟩:∃ R:Array Value,R=((Zg ks).take k).toArray++Builtin.zeroCells (Value.int .i64 0).cells (n+1 - k)++Builtin.zeroCells (Value.int .i64 0).cells (G - (n+1)):=⟨_,rfl⟩
 have hRs:R.size=G:=by rw[hR];simp[ZeT,hn];omega
 have hRt:R.toList.take k=(Zg ks).take k:=by
  rw[hR]
  simp only[Array.toList_append,List.toList_toArray,List.append_assoc]
  rw[List.take_append_of_le_length (by simp[hn];omega),List.take_take,Nat.min_self]
 rw[← hR]
 have h0:((w.alloc (.cells R (Yv.t 3))).drew).heap[w.heap.size]?=some (.cells R 3 (0,0)):=heap_alloc_new w _
 have hdl:((Zg ks).drop k).length=n - k:=by simp[hn]
 obtain⟨cur1,h1,h2,h3⟩:=Xt w.heap.size 3 [.int .i64 (j:Int)] k _ R h0 (by simp;omega)
 obtain⟨cur2,g1,g2,g3⟩:=Xt w.heap.size 3 ((Zg ks).drop k) (k+1) (((w.alloc (.cells R (Yv.t 3))).drew.setCells w.heap.size k [.int .i64 (j:Int)]).drew) cur1 h1 (by omega)
 have k1:Zb (fun b=>(Value.slice (some ⟨g,0,none⟩) n c).ownBlock=some b) w (((w.alloc (.cells R (Yv.t 3))).drew.setCells w.heap.size k [.int .i64 (j:Int)]).drew):=by
  have a1:Zb (fun _=>False) w ((w.alloc (.cells R (Yv.t 3))).drew):=((Zb.refl _ w).alloc _).drew
  have a2:Zb (fun b=>b=w.heap.size) ((w.alloc (.cells R (Yv.t 3))).drew) (((w.alloc (.cells R (Yv.t 3))).drew.setCells w.heap.size k [.int .i64 (j:Int)]).drew):=(Xu (F:=fun b=>b=w.heap.size) w.heap.size _ _ _ (Zb.refl _ _) rfl).drew
  exact(a1.trans (a2.mono (fun b _ e=>.inr (by omega)))).mono (fun _ _ e=>e.elim)
 have k2:Zb (fun b=>b=w.heap.size) (((w.alloc (.cells R (Yv.t 3))).drew.setCells w.heap.size k [.int .i64 (j:Int)]).drew) _:=Xu w.heap.size ((Zg ks).drop k) (k+1) _ (Zb.refl _ _) rfl
 refine⟨w.heap.size,G,by rw[hn],?_,k1.trans (k2.mono (fun b _ e=>.inr (by omega))),.inr (Nat.le_refl _)⟩
 refine⟨by rw[intsV_length,J3 _ _ _ (by omega)];omega,.inr ⟨w.heap.size,G,cur2,rfl,Nat.zero_le _,g1,by omega,hG2,by omega,?_⟩⟩
 have e2:cur1.toList.take (k+1)=(Zg ks).take k++[.int .i64 (j:Int)]:=by
  rw[h3,hRt,List.take_append_of_le_length (by simp[hn];omega),List.take_of_length_le (by simp[hn];omega)]
 rw[g3,ZaM,e2,Nat.mul_one,hn]
 have hl:((Zg ks).take k++[Value.int .i64 (j:Int)]++(Zg ks).drop k).length=n+1:=by simp[hn];omega
 rw[← hl,List.take_append_of_le_length (Nat.le_refl _),List.take_of_length_le (Nat.le_refl _)]
 simp
end
theorem ins_one {w:World} {vb:Nat} {v:Value} {ks:List Nat} (hrow:w.ownsRow 0 3 1 v ks.length (Zg ks)) (k j:Nat) (hk:k≤ks.length) (hbig:ks.length < lots) (hvb:w.heap[vb]?=some (.cells #[.int .i64 (j:Int)] 3 (0,0))) (hne:v.ownBlock≠some vb) :
 Calls Tryz.prog 156 #[v,.int .i64 (k:Int),.slice (some ⟨vb,0,none⟩) 1 1] w (Jr v ks k j w):=by
 obtain⟨h1,h2⟩:=hrow
 rcases h2 with ⟨hv,h0⟩|⟨g,cap,cur,hv,_,hh,hn,hc,hs,ht⟩
 · have:ks=[]:=List.eq_nil_of_length_eq_zero h0
   subst this
   subst hv
   obtain rfl:k=0:=by simpa using hk
   exact Zdi none 0 0 j [] hvb rfl (Nat.le_refl _) (by decide) (by unfold lots;decide) (fun _=>rfl) (fun a e=>by cases e)
 · subst hv
   simp only[Nat.mul_one] at hs ht
   have hg:vb≠g:=fun e=>hne (by simp[Value.ownBlock,e])
   have hcs:∀ i v,(Zg ks)[i]?=some v→w.cell? ⟨g,i,none⟩=some v:=by
    intro i v hi
    have hil:=(List.getElem?_eq_some_iff.1 hi).1
    simp at hil
    rw[← ht,List.getElem?_take_of_lt hil] at hi
    rw[Za hh,← Array.getElem?_toList]
    exact hi
   by_cases hr:ks.length+1≤cap
   · rcases Nat.lt_or_ge k ks.length with hkl|hkl
     · exact Zf9 g ks.length cap k j ks cur hvb hg rfl hkl hr hc hh hs ht
     · obtain rfl:k=ks.length:=by omega
       exact Zf8 g ks.length cap j ks cur hvb rfl hr hc hh hs ht
   · rcases Nat.lt_or_ge k ks.length with hkl|hkl
     · exact ins_grow g ks.length cap k j ks cur hvb rfl hkl hn (by omega) hbig hh ht
     · obtain rfl:k=ks.length:=by omega
       exact Zdi (some ⟨g,0,none⟩) ks.length cap j ks hvb rfl hn (by omega) hbig (fun e=>by cases e) (fun a e i v hi=>by cases e;rw[Addr.add_lit,Nat.zero_add];exact hcs i v hi)
end
end Go.Proofs.YtabogkonklplcaaGreatDoor
