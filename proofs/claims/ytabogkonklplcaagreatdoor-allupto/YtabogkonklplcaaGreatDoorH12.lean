import Derived.Test.YtabogkonklplcaaGreatDoorH09
import Derived.Test.YtabogkonklplcaaGreatDoorH10
import Derived.Test.YtabogkonklplcaaGreatDoorH11
namespace Go.Proofs.YtabogkonklplcaaGreatDoor
set_option linter.unusedSimpArgs false
set_option linter.unusedVariables false
set_option maxRecDepth 20000
set_option maxHeartbeats 8000000
section
open Go.RowKit
def ZW (t:ByteArray) (i:Nat):Nat:=(t.get! i).toNat
theorem JE (t:ByteArray) (i:Nat):ZW t i < 256:=(t.get! i).toNat_lt
theorem Z6 (t:ByteArray) (i:Nat) (h:i < t.size):Zt t i=(ZW t i:Int):=by
 have e:t.get! i=t[i]'h:=by
  cases t with
  | mk d=>exact getElem!_pos d i h
 unfold Zt ZW
 rw[dif_pos h,e]
theorem JD (t:ByteArray) (p q i:Nat) (h:p+i < q) (hq:q≤t.size):Zt (t.extract p q) i=Zt t (p+i):=by
 unfold Zt
 rw[dif_pos (by rw[ByteArray.size_extract];omega),dif_pos (by omega)]
 rw[ByteArray.getElem_extract]
theorem headW_1 (t:ByteArray) (lo hi:Int) (hm:ZS (Zt t 0)=(1,lo,hi)):Zu t=if 2≤t.size∧lo≤Zt t 1∧Zt t 1≤hi then 2 else 0:=by
 unfold Zu
 simp only[hm]
 have e:(1:Int).toNat=1:=rfl
 simp only[e,Yk,Bool.true_and,decide_eq_true_eq,if_true,Nat.zero_add]
 repeat' split
 all_goals first|rfl|(exfalso;omega)
theorem ZbI (t:ByteArray) (lo hi:Int) (hm:ZS (Zt t 0)=(2,lo,hi)):Zu t=if 3≤t.size∧(lo≤Zt t 1∧Zt t 1≤hi)∧(128≤Zt t 2∧Zt t 2≤191) then 3 else 0:=by
 unfold Zu
 simp only[hm]
 have e:(2:Int).toNat=2:=rfl
 simp only[e,Yk,Bool.true_and,Bool.and_eq_true,decide_eq_true_eq,if_true,Nat.zero_add,Nat.reduceAdd,Nat.succ_ne_zero,if_false]
 repeat' split
 all_goals first|rfl|(exfalso;omega)
theorem ZbJ (t:ByteArray) (lo hi:Int) (hm:ZS (Zt t 0)=(3,lo,hi)):Zu t=if 4≤t.size∧(lo≤Zt t 1∧Zt t 1≤hi)∧(128≤Zt t 2∧Zt t 2≤191)∧(128≤Zt t 3∧Zt t 3≤191) then 4 else 0:=by
 unfold Zu
 simp only[hm]
 have e:(3:Int).toNat=3:=rfl
 simp only[e,Yk,Bool.true_and,Bool.and_eq_true,decide_eq_true_eq,if_true,Nat.zero_add,Nat.reduceAdd,Nat.succ_ne_zero,if_false]
 repeat' split
 all_goals first|rfl|(exfalso;omega)
theorem JT (t:ByteArray) (h:0 < t.size) (b0 b1 b2 b3:Nat) (e0:Zt t 0=b0) (e1:1 < t.size→Zt t 1=b1) (e2:2 < t.size→Zt t 2=b2) (e3:3 < t.size→Zt t 3=b3) :
 Zu t=Yn t.size b0 b1 b2 b3:=by
 unfold Yn
 have mo:∀ x,ZS (b0:Int)=x→ZS (Zt t 0)=x:=fun x hx=>by rw[e0];exact hx
 by_cases a:b0<128
 · rw[if_pos a]
   have hm:=mo (0,0,0) (by unfold ZS;rw[if_pos (by omega)])
   unfold Zu
   simp only[hm]
   rw[if_neg (by omega)]
   rfl
 rw[if_neg a]
 by_cases c1:194≤b0∧b0≤223
 · rw[if_pos c1,headW_1 t 128 191 (mo _ (by unfold ZS;(repeat' split) <;> first|rfl|(exfalso;omega)))]
   repeat' split
   all_goals first|rfl|(exfalso;omega)
 rw[if_neg c1]
 by_cases c2:b0=224
 · rw[if_pos c2,ZbI t 160 191 (mo _ (by unfold ZS;(repeat' split) <;> first|rfl|(exfalso;omega)))]
   repeat' split
   all_goals first|rfl|(exfalso;omega)
 rw[if_neg c2]
 by_cases c3:b0=237
 · rw[if_pos c3,ZbI t 128 159 (mo _ (by unfold ZS;(repeat' split) <;> first|rfl|(exfalso;omega)))]
   repeat' split
   all_goals first|rfl|(exfalso;omega)
 rw[if_neg c3]
 by_cases c4:225≤b0∧b0≤239
 · rw[if_pos c4,ZbI t 128 191 (mo _ (by unfold ZS;(repeat' split) <;> first|rfl|(exfalso;omega)))]
   repeat' split
   all_goals first|rfl|(exfalso;omega)
 rw[if_neg c4]
 by_cases c5:b0=240
 · rw[if_pos c5,ZbJ t 144 191 (mo _ (by unfold ZS;(repeat' split) <;> first|rfl|(exfalso;omega)))]
   repeat' split
   all_goals first|rfl|(exfalso;omega)
 rw[if_neg c5]
 by_cases c6:241≤b0∧b0≤243
 · rw[if_pos c6,ZbJ t 128 191 (mo _ (by unfold ZS;(repeat' split) <;> first|rfl|(exfalso;omega)))]
   repeat' split
   all_goals first|rfl|(exfalso;omega)
 rw[if_neg c6]
 by_cases c7:b0=244
 · rw[if_pos c7,ZbJ t 128 143 (mo _ (by unfold ZS;(repeat' split) <;> first|rfl|(exfalso;omega)))]
   repeat' split
   all_goals first|rfl|(exfalso;omega)
 rw[if_neg c7]
 have hm:=mo (-1,0,0) (by unfold ZS;(repeat' split) <;> first|rfl|(exfalso;omega))
 unfold Zu
 simp only[hm]
 rw[if_pos (by omega)]
theorem Zaw (t:ByteArray) (p:Nat) (h:p < t.size) :
 (Zu (t.extract p t.size)=0∧Utf8.decode t p=(65533,1))∨(Zu (t.extract p t.size)≠0∧(Utf8.decode t p).2=Zu (t.extract p t.size)∧Utf8.decode t p≠(65533,1)):=by
 have hs:(t.extract p t.size).size=t.size - p:=by rw[ByteArray.size_extract];omega
 have e:Zu (t.extract p t.size)=Yn (t.size - p) (ZW t p) (ZW t (p+1)) (ZW t (p+2)) (ZW t (p+3)):=by
  rw[← hs]
  refine JT _ (by omega) _ _ _ _ ?_ ?_ ?_ ?_
  · rw[JD t p t.size 0 (by omega) (Nat.le_refl _)];exact Z6 t p h
  · intro h1;rw[JD t p t.size 1 (by omega) (Nat.le_refl _)];exact Z6 t _ (by omega)
  · intro h1;rw[JD t p t.size 2 (by omega) (Nat.le_refl _)];exact Z6 t _ (by omega)
  · intro h1;rw[JD t p t.size 3 (by omega) (Nat.le_refl _)];exact Z6 t _ (by omega)
 rw[e,Lib.decode_at]
 exact ZfY _ _ _ _ _ (JE _ _) (JE _ _) (JE _ _) (JE _ _)
end
section
open Go.RowKit
theorem Zfg (t:ByteArray) (p:Nat) (h:t.size≤p):Zr (t.extract p t.size)=some []:=by
 rw[YX,if_pos (by rw[ByteArray.size_extract];omega)]
theorem ZcF (t:ByteArray) (p:Nat) (h:p < t.size) (hd:Utf8.decode t p=(65533,1)):Zr (t.extract p t.size)=none:=by
 rcases Zaw t p h with ⟨h0,_⟩|⟨_,_,h2⟩
 · rw[YX,if_neg (by rw[ByteArray.size_extract];omega),if_pos h0]
 · exact absurd hd h2
theorem ZeM (t:ByteArray) (p:Nat) (h:p < t.size) (hd:Utf8.decode t p≠(65533,1)):0 < (Utf8.decode t p).2∧p+(Utf8.decode t p).2≤t.size:=by
 rcases Zaw t p h with ⟨_,h0⟩|⟨h1,h2,_⟩
 · exact absurd h0 hd
 · have:=ZbK (t.extract p t.size)
   rw[ByteArray.size_extract] at this
   rw[h2]
   omega
theorem ZcG (t:ByteArray) (p:Nat) (h:p < t.size) (hd:Utf8.decode t p≠(65533,1)) :
 Zr (t.extract p t.size)=(Zr (t.extract (p+(Utf8.decode t p).2) t.size)).map (t.extract p (p+(Utf8.decode t p).2)::·):=by
 have hw:=ZeM t p h hd
 rcases Zaw t p h with ⟨_,h0⟩|⟨h1,h2,_⟩
 · exact absurd h0 hd
 · rw[YX,if_neg (by rw[ByteArray.size_extract];omega),if_neg h1,← h2]
   rw[ByteArray.size_extract,ByteArray.extract_extract,ByteArray.extract_extract]
   have e1:min (p+(min t.size t.size - p)) t.size=t.size:=by omega
   have e2:min (p+(Utf8.decode t p).2) t.size=p+(Utf8.decode t p).2:=by omega
   rw[e1,e2]
   rfl
theorem XR {n m k:Nat} {q:Prop} {d:Decidable (m≤n∧q)} {d':Decidable (m≤(if m≤n∧q then k else 0)∧q)} (hk:m≤k) (h:(if m≤n∧q then k else 0)≠0) :
 (if m≤(if m≤n∧q then k else 0)∧q then k else 0)=if m≤n∧q then k else 0:=by
 by_cases c:m≤n∧q
 · have e:(if m≤n∧q then k else 0)=k:=if_pos c
   exact(if_pos ⟨by rw[e];exact hk,c.2⟩).trans e.symm
 · rw[if_neg c] at h;exact absurd rfl h
theorem ZfX {n b0 b1 b2 b3:Nat} (h:Yn n b0 b1 b2 b3≠0):Yn (Yn n b0 b1 b2 b3) b0 b1 b2 b3=Yn n b0 b1 b2 b3:=by
 unfold Yn at h ⊢
 by_cases a:b0<128
 · simp only[if_pos a]
 simp only[if_neg a] at h ⊢
 by_cases c1:194≤b0∧b0≤223
 · simp only[if_pos c1] at h ⊢
   exact XR (by decide) h
 simp only[if_neg c1] at h ⊢
 by_cases c2:b0=224
 · simp only[if_pos c2] at h ⊢
   exact XR (by decide) h
 simp only[if_neg c2] at h ⊢
 by_cases c3:b0=237
 · simp only[if_pos c3] at h ⊢
   exact XR (by decide) h
 simp only[if_neg c3] at h ⊢
 by_cases c4:225≤b0∧b0≤239
 · simp only[if_pos c4] at h ⊢
   exact XR (by decide) h
 simp only[if_neg c4] at h ⊢
 by_cases c5:b0=240
 · simp only[if_pos c5] at h ⊢
   exact XR (by decide) h
 simp only[if_neg c5] at h ⊢
 by_cases c6:241≤b0∧b0≤243
 · simp only[if_pos c6] at h ⊢
   exact XR (by decide) h
 simp only[if_neg c6] at h ⊢
 by_cases c7:b0=244
 · simp only[if_pos c7] at h ⊢
   exact XR (by decide) h
 simp only[if_neg c7] at h ⊢
theorem Zga (t:ByteArray) (h:Zu t≠0):IsCh (t.extract 0 (Zu t)):=by
 have hle:=ZbK t
 have hsz:(t.extract 0 (Zu t)).size=Zu t:=by rw[ByteArray.size_extract];omega
 refine⟨by omega,?_⟩
 have hb:∀ i,i<Zu t→Zt (t.extract 0 (Zu t)) i=Zt t i:=fun i hi=>by rw[JD t 0 (Zu t) i (by omega) hle,Nat.zero_add]
 have e1:=JT t (by omega) (ZW t 0) (ZW t 1) (ZW t 2) (ZW t 3) (Z6 t 0 (by omega)) (fun h=>Z6 t 1 h) (fun h=>Z6 t 2 h) (fun h=>Z6 t 3 h)
 have e2:=JT (t.extract 0 (Zu t)) (by omega) (ZW t 0) (ZW t 1) (ZW t 2) (ZW t 3) (by rw[hb 0 (by omega)];exact Z6 t 0 (by omega)) (fun h=>by rw[hb 1 (by omega)];exact Z6 t 1 (by omega)) (fun h=>by rw[hb 2 (by omega)];exact Z6 t 2 (by omega)) (fun h=>by rw[hb 3 (by omega)];exact Z6 t 3 (by omega))
 rw[e2,hsz]
 rw[e1] at h ⊢
 exact ZfX h
theorem JG (k:Nat):∀ (t:ByteArray) (l:List ByteArray),t.size≤k→Zr t=some l→∀ c∈l,IsCh c:=by
 induction k with
 | zero =>
   intro t l hk h c hc
   rw[YX,if_pos (by omega)] at h
   cases h
   cases hc
 | succ k ih =>
   intro t l hk h c hc
   rw[YX] at h
   by_cases h0:t.size=0
   · rw[if_pos h0] at h;cases h;cases hc
   · rw[if_neg h0] at h
     by_cases h1:Zu t=0
     · rw[if_pos h1] at h;cases h
     · rw[if_neg h1,Option.map_eq_some_iff] at h
       obtain⟨l',h2,rfl⟩:=h
       rcases List.mem_cons.1 hc with rfl|hc
       · exact Zga t h1
       · exact ih _ l' (by rw[ByteArray.size_extract];omega) h2 c hc
theorem XI (c:ByteArray) (l:List ByteArray):catB (c::l)=c++catB l:=by
 have g:∀ (l:List ByteArray) (a:ByteArray),l.foldl (·++·) a=a++l.foldl (·++·) ⟨#[]⟩:=by
  intro l
  induction l with
  | nil=>intro a;show a=a++ByteArray.empty;simp
  | cons b l ih =>
    intro a
    rw[List.foldl_cons,List.foldl_cons,ih (a++b),ih (⟨#[]⟩++b),← ByteArray.append_assoc]
    have e:(⟨#[]⟩:ByteArray)++b=b:=by show ByteArray.empty++b=b;simp
    rw[e]
 show List.foldl (·++·) (⟨#[]⟩++c) l=_
 rw[g]
 have e:(⟨#[]⟩:ByteArray)++c=c:=by show ByteArray.empty++c=c;simp
 rw[e]
 rfl
theorem JF (k:Nat):∀ (t:ByteArray) (l:List ByteArray),t.size≤k→Zr t=some l→catB l=t:=by
 induction k with
 | zero =>
   intro t l hk h
   rw[YX,if_pos (by omega)] at h
   cases h
   exact(ByteArray.size_eq_zero_iff.1 (by omega)).symm
 | succ k ih =>
   intro t l hk h
   rw[YX] at h
   by_cases h0:t.size=0
   · rw[if_pos h0] at h;cases h;exact(ByteArray.size_eq_zero_iff.1 h0).symm
   · rw[if_neg h0] at h
     by_cases h1:Zu t=0
     · rw[if_pos h1] at h;cases h
     · rw[if_neg h1,Option.map_eq_some_iff] at h
       obtain⟨l',h2,rfl⟩:=h
       rw[XI,ih _ l' (by rw[ByteArray.size_extract];omega) h2,← ByteArray.extract_eq_extract_append_extract (Zu t) (by omega) (ZbK t)]
       simp
end
section
open Go.RowKit
theorem ZX (rs:List Sp) (i:Nat) (x:Sp) (h:rs[i]?=some x) (j:Nat) (hj:j < 4):(rs.flatMap Sp.cells)[i * 4+j]?=x.cells[j]?:=by
 induction rs generalizing i with
 | nil=>simp at h
 | cons a l ih =>
   cases i with
   | zero =>
     simp at h;subst h
     rw[List.flatMap_cons,Nat.zero_mul,Nat.zero_add,List.getElem?_append_left (by simpa[Sp.cells] using hj)]
   | succ i =>
     have e:(i+1)*4+j=(i*4+j)+4:=by omega
     rw[e,List.flatMap_cons,List.getElem?_append_right (by simp[Sp.cells])]
     simpa[Sp.cells] using ih i (by simpa using h)
section
variable {w:World} {F:Nat→Prop} {bd bn cap:Nat} {rn:List RN} {rv:Value} {s:List Nd} {rs:List Sp}
theorem ZaU (hD:Zf w F bd bn cap rn rv s rs) (r:Int) (h:r < 0∨(rs.length:Int)≤r) :
 Calls Tryz.prog 131 #[.pointer (some ⟨bd,0,none⟩),.int .i64 r] w fun e w'=>e=.returned (Zi r 8)∧Below w.heap.size w w':=by
 obtain⟨ra,rc,hrve⟩:=Zo hD.ranges
 have hrv:=hD.rangesCell
 rw[hrve] at hrv
 have hlt:=hD.lt
 clear hD
 by_cases hn:r<0
 · have d1:decide (r<0)=true:=decide_eq_true hn
   go_enter Tryz.func131,Tryz.ntmps131
   go_wp2_with (go_at_call 48;refine(ZK _ _ _).mono ?_;rintro e w' ⟨rfl,rfl⟩)
   go_returns
   exact⟨rfl,by go_grown⟩
 · have d1:decide (r<0)=false:=decide_eq_false hn
   have d2:decide ((rs.length:Int)≤r)=true:=decide_eq_true (by omega)
   go_enter Tryz.func131,Tryz.ntmps131
   go_wp2_with (go_at_call 48;refine(ZK _ _ _).mono ?_;rintro e w' ⟨rfl,rfl⟩)
   go_returns
   exact⟨rfl,by go_grown⟩
theorem YT (hD:Zf w F bd bn cap rn rv s rs) (r:Nat) (h:r < rs.length) :
 Calls Tryz.prog 131 #[.pointer (some ⟨bd,0,none⟩),.int .i64 (r:Int)] w fun e w'=>e=.returned (Zi 0 0)∧Below w.heap.size w w':=by
 obtain⟨ra,rc,hrve⟩:=Zo hD.ranges
 have hrv:=hD.rangesCell
 rw[hrve] at hrv
 have hlt:=hD.lt
 clear hD
 have d1:decide ((r:Int)<0)=false:=decide_eq_false (by omega)
 have d2:decide ((rs.length:Int)≤(r:Int))=false:=decide_eq_false (by omega)
 go_enter Tryz.func131,Tryz.ntmps131
 go_wp2
 go_returns
 exact⟨rfl,by go_grown⟩
end
end
end Go.Proofs.YtabogkonklplcaaGreatDoor
