import Derived.Test.YtabogkonklplcaaGreatDoorJ10
import Derived.Test.YtabogkonklplcaaGreatDoorJ12
import Derived.WalkSmall
import Derived.LoopTactic
import Derived.Laws.RangeString
import Derived.Laws.RangeAny
import Derived.Shelf.Spec.BytesIndexFunc
import Derived.Test.YtabogkonklplcaaGreatDoorJ16
import Derived.Test.YtabogkonklplcaaGreatDoorJ17
import Derived.Test.YtabogkonklplcaaGreatDoorJ13
namespace Go.Proofs.YtabogkonklplcaaGreatDoor
set_option linter.unusedSimpArgs false
set_option linter.unusedVariables false
set_option maxRecDepth 20000
set_option maxHeartbeats 8000000
section
open Go.RowKit
def ZW (t:ByteArray) (i:Nat):Nat:=(t.get! i).toNat
theorem JG (t:ByteArray) (i:Nat):ZW t i < 256:=(t.get! i).toNat_lt
theorem Z6 (t:ByteArray) (i:Nat) (h:i < t.size):Zt t i=(ZW t i:Int):=by
 have e:t.get! i=t[i]'h:=by
  cases t with
  | mk d=>exact getElem!_pos d i h
 unfold Zt ZW
 rw[dif_pos h,e]
theorem JF (t:ByteArray) (p q i:Nat) (h:p+i < q) (hq:q≤t.size):Zt (t.extract p q) i=Zt t (p+i):=by
 unfold Zt
 rw[dif_pos (by rw[ByteArray.size_extract];omega),dif_pos (by omega)]
 rw[ByteArray.getElem_extract]
theorem headW_1 (t:ByteArray) (lo hi:Int) (hm:ZS (Zt t 0)=(1,lo,hi)):Zu t=if 2≤t.size∧lo≤Zt t 1∧Zt t 1≤hi then 2 else 0:=by
 unfold Zu
 simp only[hm]
 have e:(1:Int).toNat=1:=rfl
 simp only[e,Yk,Bool.true_and,decide_eq_true_eq,if_true,Nat.zero_add]
 repeat' split
 all_goals first|rfl|(exfalso;omega)
theorem ZbI (t:ByteArray) (lo hi:Int) (hm:ZS (Zt t 0)=(2,lo,hi)):Zu t=if 3≤t.size∧(lo≤Zt t 1∧Zt t 1≤hi)∧(128≤Zt t 2∧Zt t 2≤191) then 3 else 0:=by
 unfold Zu
 simp only[hm]
 have e:(2:Int).toNat=2:=rfl
 simp only[e,Yk,Bool.true_and,Bool.and_eq_true,decide_eq_true_eq,if_true,Nat.zero_add,Nat.reduceAdd,Nat.succ_ne_zero,if_false]
 repeat' split
 all_goals first|rfl|(exfalso;omega)
theorem ZbJ (t:ByteArray) (lo hi:Int) (hm:ZS (Zt t 0)=(3,lo,hi)):Zu t=if 4≤t.size∧(lo≤Zt t 1∧Zt t 1≤hi)∧(128≤Zt t 2∧Zt t 2≤191)∧(128≤Zt t 3∧Zt t 3≤191) then 4 else 0:=by
 unfold Zu
 simp only[hm]
 have e:(3:Int).toNat=3:=rfl
 simp only[e,Yk,Bool.true_and,Bool.and_eq_true,decide_eq_true_eq,if_true,Nat.zero_add,Nat.reduceAdd,Nat.succ_ne_zero,if_false]
 repeat' split
 all_goals first|rfl|(exfalso;omega)
theorem JT (t:ByteArray) (h:0 < t.size) (b0 b1 b2 b3:Nat) (e0:Zt t 0=b0) (e1:1 < t.size→Zt t 1=b1) (e2:2 < t.size→Zt t 2=b2) (e3:3 < t.size→Zt t 3=b3) :
 Zu t=Yn t.size b0 b1 b2 b3:=by
 unfold Yn
 have mo:∀ x,ZS (b0:Int)=x→ZS (Zt t 0)=x:=fun x hx=>by rw[e0];exact hx
 by_cases a:b0<128
 · rw[if_pos a]
   have hm:=mo (0,0,0) (by unfold ZS;rw[if_pos (by omega)])
   unfold Zu
   simp only[hm]
   rw[if_neg (by omega)]
   rfl
 rw[if_neg a]
 by_cases c1:194≤b0∧b0≤223
 · rw[if_pos c1,headW_1 t 128 191 (mo _ (by unfold ZS;(repeat' split) <;> first|rfl|(exfalso;omega)))]
   repeat' split
   all_goals first|rfl|(exfalso;omega)
 rw[if_neg c1]
 by_cases c2:b0=224
 · rw[if_pos c2,ZbI t 160 191 (mo _ (by unfold ZS;(repeat' split) <;> first|rfl|(exfalso;omega)))]
   repeat' split
   all_goals first|rfl|(exfalso;omega)
 rw[if_neg c2]
 by_cases c3:b0=237
 · rw[if_pos c3,ZbI t 128 159 (mo _ (by unfold ZS;(repeat' split) <;> first|rfl|(exfalso;omega)))]
   repeat' split
   all_goals first|rfl|(exfalso;omega)
 rw[if_neg c3]
 by_cases c4:225≤b0∧b0≤239
 · rw[if_pos c4,ZbI t 128 191 (mo _ (by unfold ZS;(repeat' split) <;> first|rfl|(exfalso;omega)))]
   repeat' split
   all_goals first|rfl|(exfalso;omega)
 rw[if_neg c4]
 by_cases c5:b0=240
 · rw[if_pos c5,ZbJ t 144 191 (mo _ (by unfold ZS;(repeat' split) <;> first|rfl|(exfalso;omega)))]
   repeat' split
   all_goals first|rfl|(exfalso;omega)
 rw[if_neg c5]
 by_cases c6:241≤b0∧b0≤243
 · rw[if_pos c6,ZbJ t 128 191 (mo _ (by unfold ZS;(repeat' split) <;> first|rfl|(exfalso;omega)))]
   repeat' split
   all_goals first|rfl|(exfalso;omega)
 rw[if_neg c6]
 by_cases c7:b0=244
 · rw[if_pos c7,ZbJ t 128 143 (mo _ (by unfold ZS;(repeat' split) <;> first|rfl|(exfalso;omega)))]
   repeat' split
   all_goals first|rfl|(exfalso;omega)
 rw[if_neg c7]
 have hm:=mo (-1,0,0) (by unfold ZS;(repeat' split) <;> first|rfl|(exfalso;omega))
 unfold Zu
 simp only[hm]
 rw[if_pos (by omega)]
theorem Zax (t:ByteArray) (p:Nat) (h:p < t.size) :
 (Zu (t.extract p t.size)=0∧Utf8.decode t p=(65533,1))∨(Zu (t.extract p t.size)≠0∧(Utf8.decode t p).2=Zu (t.extract p t.size)∧Utf8.decode t p≠(65533,1)):=by
 have hs:(t.extract p t.size).size=t.size - p:=by rw[ByteArray.size_extract];omega
 have e:Zu (t.extract p t.size)=Yn (t.size - p) (ZW t p) (ZW t (p+1)) (ZW t (p+2)) (ZW t (p+3)):=by
  rw[← hs]
  refine JT _ (by omega) _ _ _ _ ?_ ?_ ?_ ?_
  · rw[JF t p t.size 0 (by omega) (Nat.le_refl _)];exact Z6 t p h
  · intro h1;rw[JF t p t.size 1 (by omega) (Nat.le_refl _)];exact Z6 t _ (by omega)
  · intro h1;rw[JF t p t.size 2 (by omega) (Nat.le_refl _)];exact Z6 t _ (by omega)
  · intro h1;rw[JF t p t.size 3 (by omega) (Nat.le_refl _)];exact Z6 t _ (by omega)
 rw[e,Lib.decode_at]
 exact ZfU _ _ _ _ _ (JG _ _) (JG _ _) (JG _ _) (JG _ _)
end
section
open Go.RowKit
theorem Zfc (t:ByteArray) (p:Nat) (h:t.size≤p):Zr (t.extract p t.size)=some []:=by
 rw[YY,if_pos (by rw[ByteArray.size_extract];omega)]
theorem ZcF (t:ByteArray) (p:Nat) (h:p < t.size) (hd:Utf8.decode t p=(65533,1)):Zr (t.extract p t.size)=none:=by
 rcases Zax t p h with ⟨h0,_⟩|⟨_,_,h2⟩
 · rw[YY,if_neg (by rw[ByteArray.size_extract];omega),if_pos h0]
 · exact absurd hd h2
theorem ZeO (t:ByteArray) (p:Nat) (h:p < t.size) (hd:Utf8.decode t p≠(65533,1)):0 < (Utf8.decode t p).2∧p+(Utf8.decode t p).2≤t.size:=by
 rcases Zax t p h with ⟨_,h0⟩|⟨h1,h2,_⟩
 · exact absurd h0 hd
 · have:=ZbK (t.extract p t.size)
   rw[ByteArray.size_extract] at this
   rw[h2]
   omega
theorem ZcG (t:ByteArray) (p:Nat) (h:p < t.size) (hd:Utf8.decode t p≠(65533,1)) :
 Zr (t.extract p t.size)=(Zr (t.extract (p+(Utf8.decode t p).2) t.size)).map (t.extract p (p+(Utf8.decode t p).2)::·):=by
 have hw:=ZeO t p h hd
 rcases Zax t p h with ⟨_,h0⟩|⟨h1,h2,_⟩
 · exact absurd h0 hd
 · rw[YY,if_neg (by rw[ByteArray.size_extract];omega),if_neg h1,← h2]
   rw[ByteArray.size_extract,ByteArray.extract_extract,ByteArray.extract_extract]
   have e1:min (p+(min t.size t.size - p)) t.size=t.size:=by omega
   have e2:min (p+(Utf8.decode t p).2) t.size=p+(Utf8.decode t p).2:=by omega
   rw[e1,e2]
   rfl
theorem XR {n m k:Nat} {q:Prop} {d:Decidable (m≤n∧q)} {d':Decidable (m≤(if m≤n∧q then k else 0)∧q)} (hk:m≤k) (h:(if m≤n∧q then k else 0)≠0) :
 (if m≤(if m≤n∧q then k else 0)∧q then k else 0)=if m≤n∧q then k else 0:=by
 by_cases c:m≤n∧q
 · have e:(if m≤n∧q then k else 0)=k:=if_pos c
   exact(if_pos ⟨by rw[e];exact hk,c.2⟩).trans e.symm
 · rw[if_neg c] at h;exact absurd rfl h
theorem ZfT {n b0 b1 b2 b3:Nat} (h:Yn n b0 b1 b2 b3≠0):Yn (Yn n b0 b1 b2 b3) b0 b1 b2 b3=Yn n b0 b1 b2 b3:=by
 unfold Yn at h ⊢
 by_cases a:b0<128
 · simp only[if_pos a]
 simp only[if_neg a] at h ⊢
 by_cases c1:194≤b0∧b0≤223
 · simp only[if_pos c1] at h ⊢
   exact XR (by decide) h
 simp only[if_neg c1] at h ⊢
 by_cases c2:b0=224
 · simp only[if_pos c2] at h ⊢
   exact XR (by decide) h
 simp only[if_neg c2] at h ⊢
 by_cases c3:b0=237
 · simp only[if_pos c3] at h ⊢
   exact XR (by decide) h
 simp only[if_neg c3] at h ⊢
 by_cases c4:225≤b0∧b0≤239
 · simp only[if_pos c4] at h ⊢
   exact XR (by decide) h
 simp only[if_neg c4] at h ⊢
 by_cases c5:b0=240
 · simp only[if_pos c5] at h ⊢
   exact XR (by decide) h
 simp only[if_neg c5] at h ⊢
 by_cases c6:241≤b0∧b0≤243
 · simp only[if_pos c6] at h ⊢
   exact XR (by decide) h
 simp only[if_neg c6] at h ⊢
 by_cases c7:b0=244
 · simp only[if_pos c7] at h ⊢
   exact XR (by decide) h
 simp only[if_neg c7] at h ⊢
theorem Zf6 (t:ByteArray) (h:Zu t≠0):IsCh (t.extract 0 (Zu t)):=by
 have hle:=ZbK t
 have hsz:(t.extract 0 (Zu t)).size=Zu t:=by rw[ByteArray.size_extract];omega
 refine⟨by omega,?_⟩
 have hb:∀ i,i<Zu t→Zt (t.extract 0 (Zu t)) i=Zt t i:=fun i hi=>by rw[JF t 0 (Zu t) i (by omega) hle,Nat.zero_add]
 have e1:=JT t (by omega) (ZW t 0) (ZW t 1) (ZW t 2) (ZW t 3) (Z6 t 0 (by omega)) (fun h=>Z6 t 1 h) (fun h=>Z6 t 2 h) (fun h=>Z6 t 3 h)
 have e2:=JT (t.extract 0 (Zu t)) (by omega) (ZW t 0) (ZW t 1) (ZW t 2) (ZW t 3) (by rw[hb 0 (by omega)];exact Z6 t 0 (by omega)) (fun h=>by rw[hb 1 (by omega)];exact Z6 t 1 (by omega)) (fun h=>by rw[hb 2 (by omega)];exact Z6 t 2 (by omega)) (fun h=>by rw[hb 3 (by omega)];exact Z6 t 3 (by omega))
 rw[e2,hsz]
 rw[e1] at h ⊢
 exact ZfT h
theorem JI (k:Nat):∀ (t:ByteArray) (l:List ByteArray),t.size≤k→Zr t=some l→∀ c∈l,IsCh c:=by
 induction k with
 | zero =>
   intro t l hk h c hc
   rw[YY,if_pos (by omega)] at h
   cases h
   cases hc
 | succ k ih =>
   intro t l hk h c hc
   rw[YY] at h
   by_cases h0:t.size=0
   · rw[if_pos h0] at h;cases h;cases hc
   · rw[if_neg h0] at h
     by_cases h1:Zu t=0
     · rw[if_pos h1] at h;cases h
     · rw[if_neg h1,Option.map_eq_some_iff] at h
       obtain⟨l',h2,rfl⟩:=h
       rcases List.mem_cons.1 hc with rfl|hc
       · exact Zf6 t h1
       · exact ih _ l' (by rw[ByteArray.size_extract];omega) h2 c hc
theorem XI (c:ByteArray) (l:List ByteArray):catB (c::l)=c++catB l:=by
 have g:∀ (l:List ByteArray) (a:ByteArray),l.foldl (·++·) a=a++l.foldl (·++·) ⟨#[]⟩:=by
  intro l
  induction l with
  | nil=>intro a;show a=a++ByteArray.empty;simp
  | cons b l ih =>
    intro a
    rw[List.foldl_cons,List.foldl_cons,ih (a++b),ih (⟨#[]⟩++b),← ByteArray.append_assoc]
    have e:(⟨#[]⟩:ByteArray)++b=b:=by show ByteArray.empty++b=b;simp
    rw[e]
 show List.foldl (·++·) (⟨#[]⟩++c) l=_
 rw[g]
 have e:(⟨#[]⟩:ByteArray)++c=c:=by show ByteArray.empty++c=c;simp
 rw[e]
 rfl
theorem JH (k:Nat):∀ (t:ByteArray) (l:List ByteArray),t.size≤k→Zr t=some l→catB l=t:=by
 induction k with
 | zero =>
   intro t l hk h
   rw[YY,if_pos (by omega)] at h
   cases h
   exact(ByteArray.size_eq_zero_iff.1 (by omega)).symm
 | succ k ih =>
   intro t l hk h
   rw[YY] at h
   by_cases h0:t.size=0
   · rw[if_pos h0] at h;cases h;exact(ByteArray.size_eq_zero_iff.1 h0).symm
   · rw[if_neg h0] at h
     by_cases h1:Zu t=0
     · rw[if_pos h1] at h;cases h
     · rw[if_neg h1,Option.map_eq_some_iff] at h
       obtain⟨l',h2,rfl⟩:=h
       rw[XI,ih _ l' (by rw[ByteArray.size_extract];omega) h2,← ByteArray.extract_eq_extract_append_extract (Zu t) (by omega) (ZbK t)]
       simp
end
section
open Go.RowKit Go.Lib
abbrev Tabs (w:World):Prop:=Lib.Utf8Tabs 1 2 w
theorem Tabs.below {w w':World} (h:Tabs w) (hb:Below w.heap.size w w'):Tabs w':=by
 have key:∀ (p:Addr) (v:Value),w.cell? p=some v→w'.cell? p=some v:=fun p v hv=>by rw[hb.cell (World.block_lt_of_cell? w _ hv)];exact hv
 exact⟨fun c hc=>key _ _ (h.1 c hc),fun i hi=>⟨key _ _ (h.2 i hi).1,key _ _ (h.2 i hi).2⟩⟩
theorem Ze6 (c:Int) (u:ByteArray) (w:World) (hT:Tabs w) :
 Calls Tryz.prog 171 #[.int .i32 c,.string u] w fun e w'=>e=.returned (.bool (decide (c=65533) && decide ((Lib.decodeGo u).2=1)))∧Below w.heap.size w w':=by
 have C:=hid (Tryz.utf8_DecodeRuneInString u w hT)
 obtain⟨R,hR⟩:∃ R,(Lib.decodeGo u).1=R:=⟨_,rfl⟩
 obtain⟨K,hK⟩:∃ K,(Lib.decodeGo u).2=K:=⟨_,rfl⟩
 rw[hR,hK] at C
 rw[hK]
 clear hT hR hK
 by_cases hc:c=65533
 · subst hc
   go_enter Tryz.func171,Tryz.ntmps171
   go_wp2_with (go_at_call 191;refine C.out.mono ?_;rintro e w3 ⟨rfl,hb⟩)
   go_ret
   refine⟨?_,hb⟩
   congr 2
   by_cases h1:K=1
   · subst h1;rfl
   · have:¬ (K:Int)=1:=by omega
     simp[h1,this]
 · have hc1:(c != 65533)=true:=by simpa using hc
   go_enter Tryz.func171,Tryz.ntmps171
   go_wp2
   go_ret
   exact⟨by simp[hc],Below.refl _ _⟩
end
section
open Go.RowKit
structure OpR where
 kind:Int
 D:Int
 A:Int
 B:Int
 C:Int
 S:ByteArray
 p0:Int
 p1:Int
 q0:Int
 q1:Int
abbrev OpR.cells (o:OpR):List Value:=[.int .i64 o.kind,.int .i64 o.D,.int .i64 o.A,.int .i64 o.B,.int .i64 o.C,.string o.S,.int .i64 o.p0,.int .i64 o.p1,.int .i64 o.q0,.int .i64 o.q1]
abbrev OpR.val (o:OpR):Value:=opV o.kind o.D o.A o.B o.C o.S o.p0 o.p1 o.q0 o.q1
structure OpOk (o:OpR):Prop where
 d1:-9223372036854775808≤o.D
 d2:o.D≤9223372036854775807
 s:o.S.size<lots
def YS:List OpR:=[⟨1,0,0,0,0,⟨#[]⟩,0,0,0,0⟩,⟨2,0,0,0,0,⟨#[]⟩,0,0,0,0⟩,⟨3,0,0,0,0,⟨#[97,98,99,100]⟩,0,0,0,0⟩,⟨4,0,0,1,0,⟨#[]⟩,0,0,0,0⟩,⟨4,0,1,2,0,⟨#[]⟩,0,0,0,0⟩]
theorem ZfW:∀ o∈YS,OpOk o∧1≤o.kind∧o.kind≤4:=by
 intro o ho
 simp only[YS,List.mem_cons,List.not_mem_nil,or_false] at ho
 rcases ho with rfl|rfl|rfl|rfl|rfl <;> exact⟨⟨by decide,by decide,by decide⟩,by decide,by decide⟩
theorem head_any (w:World) :
 Calls Tryz.prog 17 #[] w fun e w'=>e=.returned (.slice (some ⟨w.heap.size,0,none⟩) 5 5)∧w'=w.alloc (.cells (YS.flatMap OpR.cells).toArray 39):=by
 go_enter Tryz.func17,Tryz.ntmps17
 go_wp2
 go_ret
 exact⟨rfl,rfl⟩
theorem ZgW (l:List OpR) (i:Nat) (o:OpR) (h:l[i]?=some o) (j:Nat) (hj:j < 10):(l.flatMap OpR.cells)[i * 10+j]?=o.cells[j]?:=by
 induction l generalizing i with
 | nil=>simp at h
 | cons a l ih =>
   cases i with
   | zero =>
     simp at h;subst h
     rw[List.flatMap_cons,Nat.zero_mul,Nat.zero_add,List.getElem?_append_left (by simpa using hj)]
   | succ i =>
     have e:(i+1)*10+j=(i*10+j)+10:=by omega
     rw[e,List.flatMap_cons,List.getElem?_append_right (by simp)]
     simpa using ih i (by simpa using h)
def Zad (w:World) (g off:Nat) (l:List OpR):Prop:=∀ (i:Nat) (o:OpR),l[i]?=some o→∀ (j:Nat) (u:Value),o.cells[j]?=some u→w.cell? ⟨g,off+i * 10+j,none⟩=some u
def JA (PD:PDT) (Q:Nat→Prop) (w0:World) (yb:Nat) (K:Int→Prop):Prop :=
 ∀ (o:OpR),OpOk o→K o.kind→∀ (W:World) (docs:List DocR),InvE PD Q w0 W yb docs→docs.length<lots →
  Calls Tryz.prog 15 #[ptr yb,o.val] W (YJ PD Q w0 yb docs.length (docs.length+1))
def leftV (n:Nat) (v:Value):Nat:=n - (intOf v).toNat
end
section
open Go.RowKit
structure Answers (PD:PDT) (G:World→Prop):Prop where
 pd:PDOk PD
 gb:∀ w w',G w→Below w.heap.size w w'→G w'
 new:NewOk PD G
 element:∀ s,PD.ok s→∃ n:Int,Ans PD G s 52 73 [] (fun v=>.tuple #[.int .i64 n,v]) (fun v=>.tuple #[.int .i64 n,v])
 text:∀ s,PD.ok s→∀ S:ByteArray,S.size<lots→∃ n:Int,Ans PD G s 53 74 [.string S] (fun v=>.tuple #[.int .i64 n,v]) (fun v=>.tuple #[.int .i64 n,v])
 insert:∀ s,PD.ok s→∀ A B C:Int,Ans PD G s 54 75 [.int .i64 A,.int .i64 B,.int .i64 C] (fun v=>v) (fun v=>v)
 remove:∀ s,PD.ok s→∀ A:Int,Ans PD G s 60 76 [.int .i64 A] (fun v=>v) (fun v=>v)
 shown:∀ s,PD.ok s→∀ A:Int,∃ b:ByteArray,Ans PD G s 55 77 [.int .i64 A] (fun v=>.tuple #[.string b,v]) (fun v=>.tuple #[.string b,v])
theorem Zic {PD:PDT} {G:World→Prop} (hA:Answers PD G) {Q:Nat→Prop} {w0:World} {yb:Nat} (hG:∀ W,Zb Q w0 W→G W) (o:OpR) (ho:OpOk o) (hk:2≤o.kind∧o.kind≤6) (W:World) (docs:List DocR) (hI:InvE PD Q w0 W yb docs) (hdl:docs.length < lots) :
 Calls Tryz.prog 15 #[ptr yb,o.val] W (YJ PD Q w0 yb docs.length docs.length):=by
 obtain⟨kind,D,A,B,C,S,p0,p1,q0,q1⟩:=o
 obtain⟨d1,d2,hs⟩:=ho
 simp only at d1 d2 hs hk
 by_cases h0:docs.length=0
 · exact J7 hA.pd hI kind D A B C S p0 p1 q0 q1 (by omega) (.inl h0)
 refine Zh8 hA.pd hI kind D A B C S p0 p1 q0 q1 (by omega) hk.2 (by omega) hdl d1 d2 (fun W1 own psv i d hd hI1=>?_)
 have hp:=hI1.pair hd
 have hwf:=(hI1.doc i d hd).2.2
 have hg:=hG _ hI1.fr
 have hc:kind=2∨kind=3∨kind=4∨kind=5∨kind=6:=by omega
 rcases hc with rfl|rfl|rfl|rfl|rfl
 · exact ZgI hA.pd hA.gb hp hg D A B C S p0 p1 q0 q1 (hA.element d.s hwf)
 · exact ZgM hA.pd hA.gb hp hg D A B C S p0 p1 q0 q1 (hA.text d.s hwf S hs)
 · exact ZgJ hA.pd hA.gb hp hg D A B C S p0 p1 q0 q1 (hA.insert d.s hwf A B C)
 · exact ZgK hA.pd hA.gb hp hg D A B C S p0 p1 q0 q1 (hA.remove d.s hwf A)
 · exact ZgL hA.pd hA.gb hp hg D A B C S p0 p1 q0 q1 (hA.shown d.s hwf A)
theorem steps_of {PD:PDT} {G:World→Prop} (hA:Answers PD G) {Q:Nat→Prop} {w0:World} {yb:Nat} (hG:∀ W,Zb Q w0 W→G W):JA PD Q w0 yb (fun k=>1≤k∧k≤6):=by
 intro o ho hk W docs hI hdl
 by_cases h1:o.kind=1
 · obtain⟨kind,D,A,B,C,S,p0,p1,q0,q1⟩:=o
   simp only at h1
   subst h1
   refine(step_new hA.pd hI hG hA.new D A B C S p0 p1 q0 q1 hdl).mono ?_
   rintro e w' ⟨he,docs',h,hm,hl⟩
   exact⟨he,docs',h,by omega,hl⟩
 · refine(Zic hA hG o ho ⟨by omega,hk.2⟩ W docs hI hdl).mono ?_
   rintro e w' ⟨he,docs',h,hm,hl⟩
   exact⟨he,docs',h,hm,by omega⟩
end
section
open Go.RowKit Go.Shelf
attribute [local go_sem] Oper.semAt_some
theorem JU {s:List Nd} (wf:WF s) {h:Nat→Nat} {B:Nat} (u:Up s h B) {F:Nat→Prop} {bf bn cap:Nat} {pn:List PN} {w:World} (hD:Zh w F bf bn cap pn s) (k n o:Nat) (hn:n < s.length) (hk:h n < k) :
 Calls Tryz.prog 173 #[ptr bf,.int .i64 n,.int .i64 o] w fun e w'=>e=.returned (.bool (decide (o∈allF s k n)))∧Below w.heap.size w w':=by
 have HD:=hid hD.narrow
 clear hD
 refine callsIn_wide.1 (callsIn_of_wp_marks (F:=Fence.wide) (n:=1) Tryz.func173 rfl trivial ?_ rfl)
 simp only[Tryz.ntmps173,List.size_toArray,List.length_cons,List.length_nil,Nat.reduceAdd,Nat.reduceSub,Array.replicate_succ,Array.replicate_zero,List.push_toArray,List.append_toArray,List.nil_append,List.cons_append]
 have C:Hid (∀ (m:Nat) (W:World),CallsIn Fence.wide m _ _ _ _ _):=hid (fun m W=>callsIn_wide.2 (JB bf n W))
 gi_wp2_with (refine⟨trivial,?_⟩;gi_at_call 90;refine(C.out _ _).mono ?_;rintro e w3 ⟨rfl,rfl⟩)
 obtain⟨wb,hwb⟩:∃ wb,(((w.alloc (.cells #[.int .i64 (o:Int)] 3)).alloc (.cells #[.bool false] 4)).alloc (.cells #[ptr bf] 91)).alloc (.cells #[.int .i64 (n:Int)] 3)=wb:=⟨_,rfl⟩
 have hszb:wb.heap.size=w.heap.size+4:=by rw[← hwb];simp
 have hbb:Below w.heap.size w wb:=by rw[← hwb];exact((((Below.refl _ w).alloc (Nat.le_refl _) _).alloc (by simp) _).alloc (by simp;omega) _).alloc (by simp;omega) _
 have x0:wb.heap[w.heap.size]?=some (.cells #[.int .i64 (o:Int)] 3 (0,0)):=by
  rw[← hwb,Below.heap_alloc _ _ _ (by simp;omega),Below.heap_alloc _ _ _ (by simp;omega),Below.heap_alloc _ _ _ (by simp)]
  exact heap_alloc_new w _
 have x1:wb.heap[w.heap.size+1]?=some (.cells #[.bool false] 4 (0,0)):=by
  rw[← hwb,Below.heap_alloc _ _ _ (by simp),Below.heap_alloc _ _ _ (by simp)]
  have:=heap_alloc_new (w.alloc (.cells #[.int .i64 (o:Int)] 3)) (.cells #[.bool false] 4)
  rwa [World.size_alloc] at this
 have x2:wb.heap[w.heap.size+2]?=some (.cells #[ptr bf] 91 (0,0)):=by
  rw[← hwb,Below.heap_alloc _ _ _ (by simp)]
  have:=heap_alloc_new ((w.alloc (.cells #[.int .i64 (o:Int)] 3)).alloc (.cells #[.bool false] 4)) (.cells #[ptr bf] 91)
  rwa [World.size_alloc,World.size_alloc] at this
 have x3:wb.heap[w.heap.size+3]?=some (.cells #[.int .i64 (n:Int)] 3 (0,0)):=by
  rw[← hwb]
  have:=heap_alloc_new (((w.alloc (.cells #[.int .i64 (o:Int)] 3)).alloc (.cells #[.bool false] 4)).alloc (.cells #[ptr bf] 91)) (.cells #[.int .i64 (n:Int)] 3)
  rwa [World.size_alloc,World.size_alloc,World.size_alloc] at this
 rw[hwb]
 refine J4 (gf:=138) (lb:=#[ptr (w.heap.size+3),ptr (w.heap.size+2)]) rfl (enters_of Tryz.func138 (by kernel_rfl) rfl) rfl (O:=fun b=>b=w.heap.size+1) (fun b e=>by omega)
  (Zaf wf u k n hn hk wb _ _ _ (HD.out.below hbb) (fun b hb=>⟨by have:=hb.2;omega,by have:=hb.2;omega⟩) (Za x3 0) (Za x2 0) (by omega) (by omega))
  (fun pre O3 W=>O3=(fun b=>b=w.heap.size+1)∧o∉pre∧W.heap[w.heap.size+1]?=some (.cells #[.bool false] 4 (0,0))∧Stp (fun b=>b=w.heap.size+1) O3 wb W)
  (fun pre O3 W=>O3=(fun b=>b=w.heap.size+1)∧o∈pre∧W.heap[w.heap.size+1]?=some (.cells #[.bool true] 4 (0,0))∧Stp (fun b=>b=w.heap.size+1) O3 wb W) ?mI ?mIx ?h0
  (fun y=>Act.mk #[ptr bf,Value.int IntKind.i64 n,Value.int IntKind.i64 o,undef,undef,
    Value.pointer (some { block:=w.heap.size,off:=0 }),
    Value.pointer (some { block:=w.heap.size+1,off:=0 }),Value.int IntKind.i64 y,ptr bf,Value.int IntKind.i64 n,
    Value.func (Fn.func 138) #[] #[ptr (w.heap.size+1+1+1),ptr (w.heap.size+1+1)],Value.int IntKind.i64 y,undef,undef,
    undef] []) ?assign ?body ?done ?stop
 case mI =>
  rintro pre O3 X Y ⟨rfl,h1,h2,h3⟩ hk
  exact⟨rfl,h1,by rw[hk.block _ (Zc h2) (fun e=>e.1 rfl)];exact h2,XW (Nat.le_refl _) h3 hk⟩
 case mIx =>
  rintro pre O3 X Y ⟨rfl,h1,h2,h3⟩ hk
  exact⟨rfl,h1,by rw[hk.block _ (Zc h2) (fun e=>e.1 rfl)];exact h2,XW (Nat.le_refl _) h3 hk⟩
 case h0=>exact⟨rfl,by simp,x1,Stp.refl (fun b e=>by omega)⟩
 case assign =>
  intro m l' y W K hK
  dsimp only[encN]
  gi_wp2
  exact hK
 case body =>
  rintro m l' pre y O3 W hpre hO3 ⟨rfl,h1,h2,h3⟩
  have f0:W.cell? ⟨w.heap.size,0,none⟩=some (.int .i64 (o:Int)):=h3.keeps.cell (Za x0 0) (by simp)
  have f1:W.cell? ⟨w.heap.size+1,0,none⟩=some (.bool false):=Za h2 0
  have f2:=Zd h2 0
  have H3:=hid h3
  have H2:=hid h2
  have H1:=hid h1
  clear h3 h2 h1 x0 x1 x2 x3 hpre
  by_cases hyo:y=o
  · subst hyo
    gi_wp2
    have hs:Stp (fun b=>b=w.heap.size+1) (fun b=>b=w.heap.size+1) W (W.setCell ⟨w.heap.size+1,0,none⟩ (.bool true)) :=
     ⟨(Zb.refl (fun b=>b=w.heap.size+1) W).setCell (p:=⟨w.heap.size+1,0,none⟩) (.inl rfl) _,fun b e=>.inl e,fun b e=>by have:=hO3 b e;simpa[World.setCell] using this⟩
    exact⟨_,hs,rfl,by simp,by rw[heap_setCell_same W _ 0 _ _ _ H2.out];rfl,H3.out.trans hs⟩
  · have hyI:((y:Int) == (o:Int))=false:=by simp;omega
    have hyJ:¬ (y:Int)=(o:Int):=by omega
    gi_wp2
    exact⟨_,Stp.refl hO3,rfl,by simp[H1.out];omega,H2.out,H3.out⟩
 case done =>
  rintro O5 W st5 hn5 ⟨rfl,h1,h2,h3⟩ hD5
  have f1:W.cell? ⟨w.heap.size+1,0,none⟩=some (.bool false):=Za h2 0
  have f2:=Zd h2 0
  have H5:=hid (And.intro st5 (And.intro h1 (And.intro h2 hD5)))
  clear st5 hn5 h1 h2 h3 hD5 x0 x1 x2 x3
  gi_wp2
  obtain⟨st5,h1,h2,hD5⟩:=H5.out
  refine Y9 [wb.heap.size] _ (by simp) (fun D hm=>?_) (fun w' hk'=>⟨.bool false,?_,?_,?_⟩)
  · obtain rfl:D=wb.heap.size:=by simpa using hm
    rw[Below.heap_setCell _ _ _ _ (by simp;omega)]
    exact hD5
  · have hh:=heap_setCell_same W _ 0 _ _ (.bool false) h2
    have hc:w'.cell? ⟨w.heap.size+1,0,none⟩=some (.bool false):=hk'.cell (Za hh 0) (by simp;omega)
    simp[results,Tryz.f173,go_sem,hc]
  · rw[decide_eq_false h1]
  · have k1:Zb (fun _=>False) w wb:=Zb.of_below hbb
    have k2:Zb (fun _=>False) w W:=k1.trans (st5.keeps.mono (fun b _ e=>.inr (by omega)))
    exact((k2.setCell (p:=⟨w.heap.size+1,0,none⟩) (.inr (by simp)) _).trans (hk'.mono (fun b _ e=>.inr (by simp at e;omega)))).below
 case stop =>
  rintro O5 pre W hpre st5 hn5 ⟨rfl,h1,h2,h3⟩ hD5
  have H5:=hid (And.intro st5 (And.intro h1 (And.intro h2 (And.intro hD5 hpre))))
  clear st5 hn5 h1 h2 h3 hD5 x0 x1 x2 x3 hpre
  gi_wp2
  obtain⟨st5,h1,h2,hD5,hpre⟩:=H5.out
  refine Y9 [wb.heap.size] _ (by simp) (fun D hm=>?_) (fun w' hk'=>⟨.bool true,?_,?_,?_⟩)
  · obtain rfl:D=wb.heap.size:=by simpa using hm
    exact hD5
  · have hc:w'.cell? ⟨w.heap.size+1,0,none⟩=some (.bool true):=hk'.cell (Za h2 0) (by simp;omega)
    simp[results,Tryz.f173,go_sem,hc]
  · rw[decide_eq_true (hpre.subset h1)]
  · have k1:Zb (fun _=>False) w wb:=Zb.of_below hbb
    have k2:Zb (fun _=>False) w W:=k1.trans (st5.keeps.mono (fun b _ e=>.inr (by omega)))
    exact(k2.trans (hk'.mono (fun b _ e=>.inr (by simp at e;omega)))).below
end
end Go.Proofs.YtabogkonklplcaaGreatDoor
