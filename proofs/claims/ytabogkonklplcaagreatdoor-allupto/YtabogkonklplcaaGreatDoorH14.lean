import Derived.Test.YtabogkonklplcaaGreatDoorH12
import Derived.Lib.MapLaws
import Derived.Lib.UnsafeStr
import Derived.Lib.RuneBytes
import Derived.Lib.AppendStr
import Derived.Shelf.Spec.BytesIndexFunc
import Derived.WalkSmall
import Derived.LoopTactic
import Derived.Laws.RangeString
import Derived.Laws.RangeAny
import Derived.Test.YtabogkonklplcaaGreatDoorH10
import Derived.Deep.RegionLaw
import Derived.Deep.RegionHeld3
import Derived.Deep.Cut
import Derived.Deep.CutRange
import Derived.Test.YtabogkonklplcaaGreatDoorH13
import Derived.Test.YtabogkonklplcaaGreatDoorH08
namespace Go.Proofs.YtabogkonklplcaaGreatDoor
set_option linter.unusedSimpArgs false
set_option linter.unusedVariables false
set_option maxRecDepth 20000
set_option maxHeartbeats 8000000
section
open Go.RowKit
theorem XS {n n' m k:Nat} {q:Prop} {d:Decidable (m≤n∧q)} {d':Decidable (m≤n'∧q)} (hn:n≤n') (h:(if m≤n∧q then k else 0)≠0):(if m≤n'∧q then k else 0)=if m≤n∧q then k else 0:=by
 by_cases c:m≤n∧q
 · exact(if_pos (show m≤n'∧q from ⟨by omega,c.2⟩)).trans (if_pos c).symm
 · rw[if_neg c] at h;exact absurd rfl h
theorem ZfZ {n n' b0 b1 b2 b3:Nat} (hn:n≤n') (h:Yn n b0 b1 b2 b3≠0):Yn n' b0 b1 b2 b3=Yn n b0 b1 b2 b3:=by
 unfold Yn at h ⊢
 by_cases a:b0<128
 · simp only[if_pos a]
 simp only[if_neg a] at h ⊢
 by_cases c1:194≤b0∧b0≤223
 · simp only[if_pos c1] at h ⊢
   exact XS hn h
 simp only[if_neg c1] at h ⊢
 by_cases c2:b0=224
 · simp only[if_pos c2] at h ⊢
   exact XS hn h
 simp only[if_neg c2] at h ⊢
 by_cases c3:b0=237
 · simp only[if_pos c3] at h ⊢
   exact XS hn h
 simp only[if_neg c3] at h ⊢
 by_cases c4:225≤b0∧b0≤239
 · simp only[if_pos c4] at h ⊢
   exact XS hn h
 simp only[if_neg c4] at h ⊢
 by_cases c5:b0=240
 · simp only[if_pos c5] at h ⊢
   exact XS hn h
 simp only[if_neg c5] at h ⊢
 by_cases c6:241≤b0∧b0≤243
 · simp only[if_pos c6] at h ⊢
   exact XS hn h
 simp only[if_neg c6] at h ⊢
 by_cases c7:b0=244
 · simp only[if_pos c7] at h ⊢
   exact XS hn h
 simp only[if_neg c7] at h ⊢
theorem Zaf (c r:ByteArray) (i:Nat) (h:i < c.size):Zt (c++r) i=Zt c i:=by
 unfold Zt
 rw[dif_pos (by rw[ByteArray.size_append];omega),dif_pos h,ByteArray.getElem_append_left h]
theorem Zf1 {c:ByteArray} (h:IsCh c) (r:ByteArray):Zu (c++r)=c.size:=by
 obtain⟨h0,h1⟩:=h
 have hs:(c++r).size=c.size+r.size:=ByteArray.size_append
 have e1:=JT (c++r) (by omega) (ZW (c++r) 0) (ZW (c++r) 1) (ZW (c++r) 2) (ZW (c++r) 3) (Z6 _ 0 (by omega)) (fun h=>Z6 _ 1 h) (fun h=>Z6 _ 2 h) (fun h=>Z6 _ 3 h)
 have e2:=JT c (by omega) (ZW (c++r) 0) (ZW (c++r) 1) (ZW (c++r) 2) (ZW (c++r) 3) (by rw[← Zaf c r 0 (by omega)];exact Z6 _ 0 (by omega)) (fun h=>by rw[← Zaf c r 1 h];exact Z6 _ 1 (by omega)) (fun h=>by rw[← Zaf c r 2 h];exact Z6 _ 2 (by omega)) (fun h=>by rw[← Zaf c r 3 h];exact Z6 _ 3 (by omega))
 rw[h1] at e2
 rw[e1,ZfZ (n:=c.size) (by omega) (by rw[← e2];exact h0),← e2]
theorem ZcR (a b:ByteArray):(a++b).extract a.size (a++b).size=b:=by
 rw[ByteArray.size_append]
 have e:=ByteArray.extract_append_size_add (a:=a) (b:=b) (i:=0) (j:=b.size)
 rw[Nat.add_zero] at e
 rw[e]
 exact ByteArray.extract_zero_size
theorem Zfu (c r:ByteArray) (h:IsCh c):(Utf8.decode (c++r) 0).2=c.size∧Lib.runeCells ((Utf8.decode (c++r) 0).1:Int)=Lib.strCells c:=by
 have hs:(c++r).size=c.size+r.size:=ByteArray.size_append
 have h0:=h.1
 have e0:(c++r).extract 0 (c++r).size=c++r:=ByteArray.extract_zero_size
 have hw:=Zaw (c++r) 0 (by omega)
 rw[e0,Zf1 h r] at hw
 rcases hw with ⟨h1,_⟩|⟨_,h2,h3⟩
 · exact absurd h1 h0
 · refine⟨h2,?_⟩
   have e:=Lib.encode_decode (c++r).data.toList (by intro e;have:(c++r).size=0:=by rw[← ByteArray.size_data,← Array.length_toList,e];rfl
                                                    omega) (by
    show ¬ ((Utf8.decode (c++r) 0).1=65533∧(Utf8.decode (c++r) 0).2=1)
    exact fun hh=>h3 (Prod.ext hh.1 hh.2))
   have e2:Lib.decodeL (c++r).data.toList=Utf8.decode (c++r) 0:=rfl
   rw[e2,h2] at e
   rw[← Lib.byteCells_encodeRune,e,Lib.strCells_eq]
   congr 1
   simp[ByteArray.data_append]
end
section
open Go.RowKit Go.Lib
theorem Yo (a b:List ByteArray):catB (a++b)=catB a++catB b:=by
 induction a with
 | nil=>show catB b=ByteArray.empty++catB b;simp
 | cons c a ih=>rw[List.cons_append,XI,XI,ih,ByteArray.append_assoc]
theorem rune_le (t:ByteArray) (p:Nat):(Utf8.decode t p).1≤2147483647:=by
 rw[Lib.decode_at]
 have h0:=JE t p
 unfold ZW at h0
 generalize (t.get! p).toNat=b0 at h0 ⊢
 unfold Lib.decodeN
 repeat' split
 all_goals simp
 all_goals omega
theorem Zai (l:List ByteArray) (c:ByteArray) (r:List ByteArray) (h:IsCh c) :
 ∃ R:Nat,Utf8.decode (catB (l++c::r)) (catB l).size=(R,c.size)∧Lib.runeCells (R:Int)=Lib.strCells c∧R≤2147483647∧(catB l).size<(catB (l++c::r)).size∧(catB (l++[c])).size=(catB l).size+c.size:=by
 have h0:=h.1
 have e1:catB (l++c::r)=catB l++(c++catB r):=by rw[Yo,XI]
 have hs:(catB (l++c::r)).size=(catB l).size+(c.size+(catB r).size):=by rw[e1,ByteArray.size_append,ByteArray.size_append]
 have hd:=decodeGo_tail (catB (l++c::r)) (catB l).size (by omega)
 have e2:(catB (l++c::r)).extract (catB l).size (catB (l++c::r)).size=c++catB r:=by rw[e1];exact ZcR _ _
 rw[e2] at hd
 have e3:Lib.decodeGo (c++catB r)=Utf8.decode (c++catB r) 0:=by
  unfold Lib.decodeGo
  rw[if_neg (by rw[ByteArray.size_append];omega)]
 rw[e3] at hd
 obtain⟨k1,k2⟩:=Zfu c (catB r) h
 refine⟨(Utf8.decode (c++catB r) 0).1,?_,k2,rune_le _ _,by omega,?_⟩
 · rw[← hd,← k1]
 · rw[Yo,ByteArray.size_append,XI]
   show _+(c++ByteArray.empty).size=_
   simp
theorem ZcC (l:List ByteArray) (h:∀ c∈l,IsCh c) (k:Nat) (hk:k < l.length) :
 ∃ R K:Nat,Utf8.decode (catB l) (catB (l.take k)).size=(R,K)∧R≤2147483647∧(catB (l.take k)).size<(catB l).size∧(catB (l.take (k+1))).size=(catB (l.take k)).size+K∧(catB (l.take (k+1))).size≤(catB l).size∧0<K:=by
 have e:l=l.take k++l[k]::l.drop (k+1):=by rw[List.getElem_cons_drop,List.take_append_drop]
 have hc:IsCh l[k]:=h _ (List.getElem_mem hk)
 obtain⟨R,h1,_,h3,h4,h5⟩:=Zai (l.take k) l[k] (l.drop (k+1)) hc
 rw[← e] at h1 h4
 have e2:l.take (k+1)=l.take k++[l[k]]:=by rw[List.take_succ_eq_append_getElem hk]
 refine⟨R,l[k].size,h1,h3,h4,by rw[e2];exact h5,?_,Nat.pos_of_ne_zero hc.1⟩
 have e3:catB l=catB (l.take (k+1))++catB (l.drop (k+1)):=by rw[← Yo,List.take_append_drop]
 rw[e3,ByteArray.size_append];omega
theorem YM (l:List ByteArray) (k:Nat):(catB (l.take k)).size≤(catB l).size:=by
 have e3:catB l=catB (l.take k)++catB (l.drop k):=by rw[← Yo,List.take_append_drop]
 rw[e3,ByteArray.size_append];omega
theorem YE (l:List ByteArray) (k:Nat):(catB l).extract 0 (catB (l.take k)).size=catB (l.take k)∧(catB l).extract (catB (l.take k)).size (catB l).size=catB (l.drop k):=by
 have e3:catB l=catB (l.take k)++catB (l.drop k):=by rw[← Yo,List.take_append_drop]
 constructor
 · rw[e3,ByteArray.extract_append];simp
 · conv=>lhs;rw[e3]
   exact ZcR _ _
theorem Zdm {c:ByteArray} (h:IsCh c):c.size≤4:=h.2 ▸ Zde c
theorem Z3 (l:List ByteArray) (h:∀ c∈l,IsCh c):(catB l).size≤4 * l.length:=by
 induction l with
 | nil=>show (0:Nat)≤_;omega
 | cons c l ih =>
   have:=ih (fun d hd=>h d (by simp[hd]))
   have h2:=Zdm (h c (by simp))
   rw[XI,ByteArray.size_append,List.length_cons];omega
end
section
open Go.RowKit
structure DocR where
 bx:Nat
 bd:Nat
 s:St
structure Inv (PD:PDT) (Q:Nat→Prop) (w0 w:World) (yb:Nat) (docs:List DocR) (own:Nat→Nat) (psv:Value):Prop where
 play:Xi w yb psv
 row:w.ownsRow 0 44 2 psv docs.length (docs.flatMap fun d=>[ptr d.bx,ptr d.bd])
 oy:own yb=1
 ops:∀ b,psv.ownBlock=some b→own b=1∧b≠yb
 ol:∀ b,own b≠0→Q b∧b<w.heap.size
 bl:∀ b,w.heap.size≤b→Q b
 fr:Zb Q w0 w
 doc:∀ (i:Nat) (d:DocR),docs[i]?=some d→PD w (fun b=>own b=2*i+2) d.bx d.s∧XG w (fun b=>own b=2*i+3) d.bd d.s∧PD.ok d.s
def InvE (PD:PDT) (Q:Nat→Prop) (w0 w:World) (yb:Nat) (docs:List DocR):Prop:=∃ own psv,Inv PD Q w0 w yb docs own psv
def YI (PD:PDT) (Q:Nat→Prop) (w0:World) (yb:Nat) (m n:Nat) (e:Ending) (w':World):Prop:=e=.returned (.bool true)∧∃ docs,InvE PD Q w0 w' yb docs∧m≤docs.length∧docs.length≤n
theorem ZbT (docs:List DocR) (i:Nat) (d:DocR) (h:docs[i]?=some d):(docs.flatMap fun d=>[ptr d.bx,ptr d.bd])[i * 2]?=some (ptr d.bx)∧(docs.flatMap fun d=>[ptr d.bx,ptr d.bd])[i * 2+1]?=some (ptr d.bd):=by
 induction docs generalizing i with
 | nil=>simp at h
 | cons a l ih =>
   cases i with
   | zero=>simp at h;subst h;simp
   | succ i =>
     have:=ih i (by simpa using h)
     have e1:(i+1)*2=i*2+1+1:=by omega
     have e2:(i+1)*2+1=i*2+1+1+1:=by omega
     rw[e2,e1]
     simpa using this
theorem Zg0 (docs:List DocR) (i:Nat) (d d':DocR) (h:docs[i]?=some d) (hx:d'.bx=d.bx) (hd:d'.bd=d.bd):((docs.set i d').flatMap fun d=>[ptr d.bx,ptr d.bd])=(docs.flatMap fun d=>[ptr d.bx,ptr d.bd]):=by
 induction docs generalizing i with
 | nil=>simp at h
 | cons a l ih =>
   cases i with
   | zero=>simp at h;subst h;simp[hx,hd]
   | succ i=>simp[ih i (by simpa using h)]
section
variable {PD:PDT} {Q:Nat→Prop} {w0 w:World} {yb:Nat} {docs:List DocR} {own:Nat→Nat} {psv:Value}
theorem InvE.below {w':World} (hPD:PDOk PD) (h:InvE PD Q w0 w yb docs) (hb:Below w.heap.size w w'):InvE PD Q w0 w' yb docs:=by
 obtain⟨own,psv,h⟩:=h
 have hk:=Zb.of_below (F:=fun _=>False) hb
 have hz:=hb.size
 have hbl:=h.bl
 refine⟨own,psv,h.play.keeps hk (fun e=>e),hk.row h.row (fun _ _ e=>e),h.oy,h.ops,fun b e=>⟨(h.ol b e).1,by have:=(h.ol b e).2;omega⟩,fun b e=>hbl b (by omega),h.fr.trans (Zb.of_below hb),fun i d hd=>?_⟩
 obtain⟨h1,h2,h3⟩:=h.doc i d hd
 exact⟨hPD.keeps h1 hk (fun _ _ e=>e),h2.keeps hk (fun _ _ e=>e),h3⟩
theorem Inv.pair (h:Inv PD Q w0 w yb docs own psv) {i:Nat} {d:DocR} (hd:docs[i]?=some d):ZU PD (fun b=>own b=2 * i+2) (fun b=>own b=2 * i+3) w yb d.bx d.bd psv d.s:=by
 obtain⟨h1,h2,h3⟩:=h.doc i d hd
 have hy:=h.oy
 exact⟨h.play,h1,h2,fun b e1 e2=>by omega,by omega,by omega,fun b e=>(h.ol b (by omega)).2,fun b e=>(h.ol b (by omega)).2⟩
theorem Inv.stepped (hPD:PDOk PD) (h:Inv PD Q w0 w yb docs own psv) {i:Nat} {d:DocR} (hd:docs[i]?=some d) {e:Ending} {w':World} (hp:Z8 PD (fun b=>own b=2 * i+2) (fun b=>own b=2 * i+3) w yb d.bx d.bd psv e w') :
 YI PD Q w0 yb docs.length docs.length e w':=by
 obtain⟨rfl,m,s',hm1,hm2,hwf,hk,hpl,hpd,hrd⟩:=hp
 have hbl:=h.bl
 have hi:=(List.getElem?_eq_some_iff.1 hd).1
 refine⟨rfl,docs.set i ⟨d.bx,d.bd,s'⟩,⟨fun b=>if w.heap.size≤b then (if b<m then 2*i+2 else if b<w'.heap.size then 2*i+3 else 0) else own b,psv,?_⟩,by simp,by simp⟩
 have hyb:yb<w.heap.size:=(h.ol yb (by rw[h.oy];decide)).2
 refine⟨hpl,?_,?_,?_,?_,fun b e=>hbl b (by omega),?_,?_⟩
 · rw[List.length_set,Zg0 docs i d ⟨d.bx,d.bd,s'⟩ hd rfl rfl]
   refine hk.row h.row (fun b e=>?_)
   have:=h.ops b e
   omega
 · rw[if_neg (by omega)];exact h.oy
 · intro b e
   have h1:=h.ops b e
   have h2:=(h.ol b (by omega)).2
   exact⟨by rw[if_neg (by omega)];exact h1.1,h1.2⟩
 · intro b e
   split at e
   · split at e
     · exact⟨hbl b (by omega),by omega⟩
     · split at e
       · exact⟨hbl b (by omega),by omega⟩
       · exact absurd rfl e
   · have:=h.ol b e
     exact⟨this.1,by omega⟩
 · refine h.fr.trans (hk.mono (fun k _ e=>.inl ?_))
   have h1:own k≠0:=by
    rcases e with e|e|e
    · omega
    · omega
    · rw[e,h.oy];decide
   exact(h.ol k h1).1
 · intro j d' hd'
   rw[List.getElem?_set] at hd'
   by_cases hij:i=j
   · subst hij
     rw[if_pos rfl,if_pos hi] at hd'
     cases hd'
     refine⟨hPD.wider hpd (fun b hb=>?_),hrd.wider (fun b hb=>?_),hwf⟩
     · rcases hb with hb|hb
       · have:=(h.ol b (by omega)).2
         rw[if_neg (by omega)];exact hb
       · rw[if_pos hb.1,if_pos hb.2]
     · rcases hb with hb|hb
       · have:=(h.ol b (by omega)).2
         rw[if_neg (by omega)];exact hb
       · rw[if_pos (by omega),if_neg (by omega),if_pos hb.2]
   · rw[if_neg hij] at hd'
     obtain⟨h1,h2,h3⟩:=h.doc j d' hd'
     refine⟨hPD.wider (hPD.keeps h1 hk (fun b hb hf=>by have:=h.oy;rcases hf with hf|hf|hf;omega;omega;(rw[hf] at hb;omega))) (fun b hb=>?_),(h2.keeps hk (fun b hb hf=>by have:=h.oy;rcases hf with hf|hf|hf;omega;omega;(rw[hf] at hb;omega))).wider (fun b hb=>?_),h3⟩
     · have:=(h.ol b (by omega)).2
       rw[if_neg (by omega)];exact hb
     · have:=(h.ol b (by omega)).2
       rw[if_neg (by omega)];exact hb
def NewOk (PD:PDT) (G:World→Prop):Prop:=∀ w:World,G w→Calls Tryz.prog 40 #[] w fun e w'=>∃ bx,e=.returned (ptr bx)∧Below w.heap.size w w'∧PD w' (fun b=>w.heap.size≤b) bx ⟨[Z5],[]⟩
theorem wf_root:WF [Z5] where
 pos:=by decide
 cap:=by decide
 up:=⟨fun _=>0,0,fun _=>Nat.le_refl _,fun i x hx hp=>by
  cases i with
  | zero=>simp at hx;subst hx;simp[Z5] at hp
  | succ i=>simp at hx⟩
 kid:=fun i x hx c hc=>by
  cases i with
  | zero=>simp at hx;subst hx;simp[Z5] at hc
  | succ i=>simp at hx
 par:=fun c y hy=>by
  cases c with
  | zero=>simp at hy;subst hy;exact .inl rfl
  | succ i=>simp at hy
 nodup:=fun i x hx=>by
  cases i with
  | zero=>simp at hx;subst hx;simp[Z5]
  | succ i=>simp at hx
 root:=fun x hx=>by simp at hx;subst hx;rfl
 elem:=fun i x hx=>by
  cases i with
  | zero=>simp at hx;subst hx;exact⟨fun h=>(by cases h),fun _=>rfl⟩
  | succ i=>simp at hx
 chars:=fun i x hx=>by
  cases i with
  | zero=>simp at hx;subst hx;exact⟨by decide,fun c hc=>by simp[Z5] at hc⟩
  | succ i=>simp at hx
abbrev Xb (kind D A B C:Int) (S:ByteArray) (p0 p1 q0 q1:Int):Array Value:=#[.int .i64 kind,.int .i64 D,.int .i64 A,.int .i64 B,.int .i64 C,.string S,.int .i64 p0,.int .i64 p1,.int .i64 q0,.int .i64 q1]
theorem Za1 (hPD:PDOk PD) (h:InvE PD Q w0 w yb docs) (kind D A B C:Int) (S:ByteArray) (p0 p1 q0 q1:Int) (hk1:kind≠1) (hk:docs.length=0∨kind < 2∨15 < kind) :
 Calls Tryz.prog 15 #[ptr yb,opV kind D A B C S p0 p1 q0 q1] w (YI PD Q w0 yb docs.length docs.length):=by
 have hI:=h
 obtain⟨own,psv,h⟩:=h
 obtain⟨a,c,hv⟩:=Zo h.row
 obtain⟨l0,a0,y0,-,hq⟩:=h.play
 have hl:=Zc hq
 have c0:w.cell? ⟨yb,0,none⟩=some (.slice a docs.length c):=by rw[← hv];exact Za hq 0
 have hk1':(kind == 1)=false:=by simpa using hk1
 have HI:=hid hI
 have HPD:=hid hPD
 clear hq h hI hPD hv hk1
 have done:∀ (v:Value) (W:World),Below w.heap.size w W→YI PD Q w0 yb docs.length docs.length (.returned (.bool true)) W:=fun v W hb=>⟨rfl,docs,HI.out.below HPD.out hb,Nat.le_refl _,Nat.le_refl _⟩
 have DONE:=hid done
 clear done
 by_cases h0:docs.length=0
 · have h0':((docs.length:Int) == 0)=true:=by simp[h0]
   rw[h0] at c0
   go_enter Tryz.func15,Tryz.ntmps15
   go_wp2
   go_ret
   exact DONE.out (.bool true) _ (by go_grown)
 · have h0':((docs.length:Int) == 0)=false:=by simp;intro e;exact h0 (by simp[e])
   by_cases h2:kind<2
   · go_enter Tryz.func15,Tryz.ntmps15
     go_wp2
     go_ret
     exact DONE.out (.bool true) _ (by go_grown)
   · have h2':decide (kind<2)=false:=decide_eq_false h2
     have h15:15<kind:=by omega
     go_enter Tryz.func15,Tryz.ntmps15
     go_wp2
     go_ret
     exact DONE.out (.bool true) _ (by go_grown)
end
end
section
open Go.RowKit
section
variable {PD:PDT} {Q:Nat→Prop} {w0 w:World} {yb:Nat} {docs:List DocR}
theorem Zic (hPD:PDOk PD) (h:InvE PD Q w0 w yb docs) (kind D A B C:Int) (S:ByteArray) (p0 p1 q0 q1:Int) (hk2:2≤kind) (hk6:kind≤6) (hd0:0 < docs.length) (hdl:docs.length < lots)
 (hD1:-9223372036854775808≤D) (hD2:D≤9223372036854775807)
 (hN:∀ (W:World) (own:Nat→Nat) (psv:Value) (i:Nat) (d:DocR),docs[i]?=some d→Inv PD Q w0 W yb docs own psv →
   Calls Tryz.prog 42 #[ptr yb,.agg #[ptr d.bx,ptr d.bd],opV kind D A B C S p0 p1 q0 q1] W (Z8 PD (fun b=>own b=2*i+2) (fun b=>own b=2*i+3) W yb d.bx d.bd psv)) :
 Calls Tryz.prog 15 #[ptr yb,opV kind D A B C S p0 p1 q0 q1] w (YI PD Q w0 yb docs.length docs.length):=by
 have hI:=h
 obtain⟨own,psv,h⟩:=h
 rcases ZB h.row with ⟨_,hz⟩|⟨g,c,hv⟩
 · omega
 have hrow:=h.row
 rw[hv] at hrow
 obtain⟨l0,a0,y0,-,hq⟩:=h.play
 have hl:=Zc hq
 have c0:w.cell? ⟨yb,0,none⟩=some (.slice (some ⟨g,0,none⟩) docs.length c):=by rw[← hv];exact Za hq 0
 have hi:=ZbV D hd0
 obtain⟨i,hie⟩:∃ i,Xx D docs.length=i:=⟨_,rfl⟩
 rw[hie] at hi
 have hd:docs[i]?=some docs[i]:=List.getElem?_eq_getElem hi
 generalize docs[i]=d at hd
 have hpg:=ZbT docs i d hd
 have cx:w.cell? ⟨g,i*2,none⟩=some (ptr d.bx):=by rw[hrow.cellAt (i*2) (by omega)];exact hpg.1
 have cd:w.cell? ⟨g,i*2+1,none⟩=some (ptr d.bd):=by rw[hrow.cellAt (i*2+1) (by omega)];exact hpg.2
 have hgl:g<w.heap.size:=(hrow.lt g rfl).2
 have hk1':(kind == 1)=false:=by simp;omega
 have hk2':decide (kind<2)=false:=decide_eq_false (by omega)
 have hk3':decide (15<kind)=false:=decide_eq_false (by omega)
 have h0':((docs.length:Int) == 0)=false:=by simp;intro e;rw[e] at hd0;simp at hd0
 have hk6':decide (kind≤6)=true:=decide_eq_true hk6
 have PICK:=hid (ZbW D docs.length hd0 hdl hD1 hD2)
 have hil:i<docs.length:=hi
 have HIE:=hid hie
 have HDL:=hid hdl
 have HI:=hid hI
 have HPD:=hid hPD
 have HN:=hid hN
 have HD:=hid hd
 clear hq h hI hPD hv hrow hN hd hpg hi hie hdl hD1 hD2
 go_enter Tryz.func15,Tryz.ntmps15
 go_wp2
 go_region_held3 (fun w'=>w'.cell? ⟨yb,0,none⟩=some (.slice (some ⟨g,0,none⟩) docs.length c)∧w'.cell? ⟨w.heap.size,1,none⟩=some (.int .i64 D)∧w'.cell? ⟨g,i*2,none⟩=some (ptr d.bx)∧w'.cell? ⟨g,i*2+1,none⟩=some (ptr d.bd)) (go_keep) (first
  | (go_at_call 21;refine(PICK.out _).mono ?_;rintro e w' ⟨rfl,rfl⟩;rw[HIE.out]))
 all_goals
  have hb:Below w.heap.size w (((w.alloc (.cells (Xb kind D A B C S p0 p1 q0 q1) 39)).alloc (.cells #[ptr d.bx,ptr d.bd] 44)).drew):=(((Below.refl _ w).alloc (Nat.le_refl _) _).alloc (by simp) _).drew
  obtain⟨own2,psv2,hI2⟩:=HI.out.below HPD.out hb
  have CN:=hid (HN.out (((w.alloc (.cells (Xb kind D A B C S p0 p1 q0 q1) 39)).alloc (.cells #[ptr d.bx,ptr d.bd] 44)).drew) own2 psv2 i d HD.out hI2)
  have HI2:=hid hI2
  clear hb hI2
  go_wp2_with (go_at_call 42;refine CN.out.mono ?_;intro e w3 hp;have he:=hp.1;subst he;have HP:=hid hp;clear hp)
  go_ret
  exact HI2.out.stepped HPD.out HD.out HP.out
end
end
section
abbrev Mvf:Type:=Int→Int→Int × Int
def Ze (n o d:Int):Mvf:=fun a b=>if a=n∧o < b then (a,b+d) else (a,b)
def Zz (l:List Nat) (p q:Int) (g:Mvf):Mvf:=fun a b=>if (l.map Int.ofNat).contains a then (p,q) else g a b
def Zl (n o t g:Int):Mvf:=fun a b=>if a=n∧o < b∧b≤o+t then (n,o) else Ze n (o+t) (g - t) a b
def Zp (n o fr:Int) (g:Mvf):Mvf:=fun a b=>if a=n∧o < b then (fr,b - o) else g a b
def mvSp (f:Mvf) (x:Sp):Sp:=⟨(f x.a x.b).1,(f x.a x.b).2,(f x.c x.d).1,(f x.c x.d).2⟩
def PlOk (s:List Nd) (a b:Int):Prop:=∃ n k:Nat,a=(n:Int)∧b=(k:Int)∧n < s.length∧k≤Zn s n
def SpOk (s:List Nd) (x:Sp):Prop:=PlOk s x.a x.b∧PlOk s x.c x.d
theorem Xy {s:List Nd} {i:Nat} (hi:i < s.length) (x:Nd) (n:Nat):Zn (s.set i x) n=if n=i then ZI x else Zn s n:=by
 unfold Zn
 by_cases h:n=i
 · subst h
   simp[hi]
 · rw[List.getElem?_set_ne (fun e=>h e.symm),if_neg h]
theorem Zee {s:List Nd} (x:Nd) {n:Nat} (hn:n < s.length):Zn (s++[x]) n=Zn s n:=by
 unfold Zn
 rw[List.getElem?_append_left hn]
theorem PlOk.push {s:List Nd} {a b:Int} (h:PlOk s a b) (x:Nd):PlOk (s++[x]) a b:=by
 obtain⟨n,k,rfl,rfl,hn,hk⟩:=h
 exact⟨n,k,rfl,rfl,by simp;omega,by rw[Zee x hn];exact hk⟩
theorem PlOk.insert {s:List Nd} {i j k:Nat} {x y:Nd} (hx:s[i]?=some x) (hy:s[j]?=some y) (hij:i≠j) (ht:x.t=false) (hk:k≤x.ks.length) {a b:Int} (h:PlOk s a b) :
 PlOk ((s.set i { x with ks:=x.ks.take k++j::x.ks.drop k }).set j { y with p:=i }) (Ze i k 1 a b).1 (Ze i k 1 a b).2:=by
 obtain⟨n,m,rfl,rfl,hn,hm⟩:=h
 have hi:i<s.length:=(List.getElem?_eq_some_iff.1 hx).1
 have hj:j<s.length:=(List.getElem?_eq_some_iff.1 hy).1
 have hsz:Zn ((s.set i { x with ks:=x.ks.take k++j::x.ks.drop k }).set j { y with p:=i }) n=if n=i then Zn s n+1 else Zn s n:=by
  rw[Xy (by simpa using hj),Xy hi]
  by_cases h1:n=j
  · subst h1
    rw[if_pos rfl,if_neg (fun e=>hij e.symm),ZE hy]
    rfl
  · rw[if_neg h1]
    by_cases h2:n=i
    · subst h2
      rw[if_pos rfl,if_pos rfl,ZE hx,Yg ht,Yg (x:={ x with ks:=x.ks.take k++j::x.ks.drop k }) ht]
      simp;omega
    · rw[if_neg h2,if_neg h2]
 unfold Ze
 by_cases hc:(n:Int)=(i:Int)∧(k:Int)<(m:Int)
 · rw[if_pos hc]
   refine⟨n,m+1,rfl,by simp,by simpa using hn,?_⟩
   rw[hsz,if_pos (by omega)];omega
 · rw[if_neg hc]
   refine⟨n,m,rfl,rfl,by simpa using hn,?_⟩
   rw[hsz];split <;> omega
theorem PlOk.remove {s:List Nd} {i j m:Nat} {x y:Nd} (hx:s[i]?=some x) (hy:s[j]?=some y) (hij:i≠j) (ht:y.t=false) (hm:m < y.ks.length) (l:List Nat) (hjl:j∉l) {a b:Int} (h:PlOk s a b) :
 PlOk ((s.set j { y with ks:=y.ks.take m++y.ks.drop (m+1) }).set i { x with p:=-1 }) (Zz l j m (Ze j m (-1)) a b).1 (Zz l j m (Ze j m (-1)) a b).2:=by
 obtain⟨n,o,rfl,rfl,hn,ho⟩:=h
 have hi:i<s.length:=(List.getElem?_eq_some_iff.1 hx).1
 have hj:j<s.length:=(List.getElem?_eq_some_iff.1 hy).1
 have hsz:∀ n,Zn ((s.set j { y with ks:=y.ks.take m++y.ks.drop (m+1) }).set i { x with p:=-1 }) n=if n=j then Zn s n - 1 else Zn s n:=by
  intro n
  rw[Xy (by simpa using hi),Xy hj]
  by_cases h1:n=i
  · subst h1
    rw[if_pos rfl,if_neg hij,ZE hx]
    rfl
  · rw[if_neg h1]
    by_cases h2:n=j
    · subst h2
      rw[if_pos rfl,if_pos rfl,ZE hy,Yg ht,Yg (x:={ y with ks:=y.ks.take m++y.ks.drop (m+1) }) ht]
      simp;omega
    · rw[if_neg h2,if_neg h2]
 have hsj:Zn s j=y.ks.length:=by rw[ZE hy,Yg ht]
 unfold Zz
 split
 · exact⟨j,m,rfl,rfl,by simpa using hj,by rw[hsz,if_pos rfl,hsj];omega⟩
 · unfold Ze
   by_cases hc:(n:Int)=(j:Int)∧(m:Int)<(o:Int)
   · rw[if_pos hc]
     obtain rfl:n=j:=by omega
     exact⟨n,o - 1,rfl,by show (o:Int)+-1=_;omega,by simpa using hn,by rw[hsz,if_pos rfl];omega⟩
   · rw[if_neg hc]
     refine⟨n,o,rfl,rfl,by simpa using hn,?_⟩
     rw[hsz]
     split
     · rename_i e
       subst e
       omega
     · exact ho
theorem PlOk.replace {s:List Nd} {i o c:Nat} {x:Nd} {cs:List ByteArray} {g:Nat} (hx:s[i]?=some x) (ht:x.t=true) (hc:o+c≤x.cs.length) (hcs:cs.length=x.cs.length - c+g) {a b:Int} (h:PlOk s a b) :
 PlOk (s.set i { x with cs:=cs }) (Zl i o c g a b).1 (Zl i o c g a b).2:=by
 obtain⟨n,m,rfl,rfl,hn,hm⟩:=h
 have hi:i<s.length:=(List.getElem?_eq_some_iff.1 hx).1
 have hsi:Zn s i=x.cs.length:=by rw[ZE hx,Yl ht]
 have hsz:∀ n,Zn (s.set i { x with cs:=cs }) n=if n=i then cs.length else Zn s n:=by
  intro n
  rw[Xy hi,Yl (x:={ x with cs:=cs }) ht]
 unfold Zl
 split
 · exact⟨i,o,rfl,rfl,by simpa using hi,by rw[hsz,if_pos rfl];omega⟩
 · rename_i h1
   unfold Ze
   split
   · rename_i h2
     obtain rfl:n=i:=by omega
     exact⟨n,m - c+g,rfl,by show (m:Int)+_=_;omega,by simpa using hn,by rw[hsz,if_pos rfl];omega⟩
   · rename_i h2
     refine⟨n,m,rfl,rfl,by simpa using hn,?_⟩
     rw[hsz]
     split
     · rename_i e
       subst e
       have:m≤o:=by
        rcases Nat.lt_or_ge o m with h|h
        · exfalso
          have h3:¬ ((m:Int)≤(o:Int)+(c:Int)):=fun h4=>h1 ⟨rfl,by omega,h4⟩
          exact h2 ⟨rfl,by omega⟩
        · exact h
       omega
     · exact hm
theorem SpOk.mv {s s':List Nd} {f:Mvf} (hf:∀ a b:Int,PlOk s a b→PlOk s' (f a b).1 (f a b).2) {x:Sp} (h:SpOk s x):SpOk s' (mvSp f x):=⟨hf _ _ h.1,hf _ _ h.2⟩
theorem PlOk.small {s:List Nd} (wf:WF s) {a b:Int} (h:PlOk s a b):0≤b∧b≤40:=by
 obtain⟨n,k,rfl,rfl,hn,hk⟩:=h
 have hx:=List.getElem?_eq_getElem hn
 rw[ZE hx] at hk
 have:=ZaY wf hx
 omega
end
end Go.Proofs.YtabogkonklplcaaGreatDoor
