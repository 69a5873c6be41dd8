import Derived.Test.YtabogkonklplcaaGreatDoorJ18
import Derived.Lib.MapLaws
import Derived.Lib.UnsafeStr
import Derived.Lib.RuneBytes
import Derived.Lib.AppendStr
import Derived.Shelf.Spec.BytesIndexFunc
import Derived.WalkSmall
import Derived.LoopTactic
import Derived.Laws.RangeString
import Derived.Laws.RangeAny
import Derived.Deep.DeepFit
import Derived.Maps.AppendAt
import Derived.Maps.OwnIn
import Derived.Test.YtabogkonklplcaaGreatDoorJ13
import Derived.Test.YtabogkonklplcaaGreatDoorJ15
import Derived.Deep.QuietTactic
import Derived.BigQuiet
namespace Go.Proofs.YtabogkonklplcaaGreatDoor
set_option linter.unusedSimpArgs false
set_option linter.unusedVariables false
set_option maxRecDepth 20000
set_option maxHeartbeats 8000000
section
open Go.RowKit
theorem XS {n n' m k:Nat} {q:Prop} {d:Decidable (m≤n∧q)} {d':Decidable (m≤n'∧q)} (hn:n≤n') (h:(if m≤n∧q then k else 0)≠0):(if m≤n'∧q then k else 0)=if m≤n∧q then k else 0:=by
 by_cases c:m≤n∧q
 · exact(if_pos (show m≤n'∧q from ⟨by omega,c.2⟩)).trans (if_pos c).symm
 · rw[if_neg c] at h;exact absurd rfl h
theorem ZfV {n n' b0 b1 b2 b3:Nat} (hn:n≤n') (h:Yn n b0 b1 b2 b3≠0):Yn n' b0 b1 b2 b3=Yn n b0 b1 b2 b3:=by
 unfold Yn at h ⊢
 by_cases a:b0<128
 · simp only[if_pos a]
 simp only[if_neg a] at h ⊢
 by_cases c1:194≤b0∧b0≤223
 · simp only[if_pos c1] at h ⊢
   exact XS hn h
 simp only[if_neg c1] at h ⊢
 by_cases c2:b0=224
 · simp only[if_pos c2] at h ⊢
   exact XS hn h
 simp only[if_neg c2] at h ⊢
 by_cases c3:b0=237
 · simp only[if_pos c3] at h ⊢
   exact XS hn h
 simp only[if_neg c3] at h ⊢
 by_cases c4:225≤b0∧b0≤239
 · simp only[if_pos c4] at h ⊢
   exact XS hn h
 simp only[if_neg c4] at h ⊢
 by_cases c5:b0=240
 · simp only[if_pos c5] at h ⊢
   exact XS hn h
 simp only[if_neg c5] at h ⊢
 by_cases c6:241≤b0∧b0≤243
 · simp only[if_pos c6] at h ⊢
   exact XS hn h
 simp only[if_neg c6] at h ⊢
 by_cases c7:b0=244
 · simp only[if_pos c7] at h ⊢
   exact XS hn h
 simp only[if_neg c7] at h ⊢
theorem Zah (c r:ByteArray) (i:Nat) (h:i < c.size):Zt (c++r) i=Zt c i:=by
 unfold Zt
 rw[dif_pos (by rw[ByteArray.size_append];omega),dif_pos h,ByteArray.getElem_append_left h]
theorem ZfX {c:ByteArray} (h:IsCh c) (r:ByteArray):Zu (c++r)=c.size:=by
 obtain⟨h0,h1⟩:=h
 have hs:(c++r).size=c.size+r.size:=ByteArray.size_append
 have e1:=JT (c++r) (by omega) (ZW (c++r) 0) (ZW (c++r) 1) (ZW (c++r) 2) (ZW (c++r) 3) (Z6 _ 0 (by omega)) (fun h=>Z6 _ 1 h) (fun h=>Z6 _ 2 h) (fun h=>Z6 _ 3 h)
 have e2:=JT c (by omega) (ZW (c++r) 0) (ZW (c++r) 1) (ZW (c++r) 2) (ZW (c++r) 3) (by rw[← Zah c r 0 (by omega)];exact Z6 _ 0 (by omega)) (fun h=>by rw[← Zah c r 1 h];exact Z6 _ 1 (by omega)) (fun h=>by rw[← Zah c r 2 h];exact Z6 _ 2 (by omega)) (fun h=>by rw[← Zah c r 3 h];exact Z6 _ 3 (by omega))
 rw[h1] at e2
 rw[e1,ZfV (n:=c.size) (by omega) (by rw[← e2];exact h0),← e2]
theorem ZcS (a b:ByteArray):(a++b).extract a.size (a++b).size=b:=by
 rw[ByteArray.size_append]
 have e:=ByteArray.extract_append_size_add (a:=a) (b:=b) (i:=0) (j:=b.size)
 rw[Nat.add_zero] at e
 rw[e]
 exact ByteArray.extract_zero_size
theorem Zfq (c r:ByteArray) (h:IsCh c):(Utf8.decode (c++r) 0).2=c.size∧Lib.runeCells ((Utf8.decode (c++r) 0).1:Int)=Lib.strCells c:=by
 have hs:(c++r).size=c.size+r.size:=ByteArray.size_append
 have h0:=h.1
 have e0:(c++r).extract 0 (c++r).size=c++r:=ByteArray.extract_zero_size
 have hw:=Zax (c++r) 0 (by omega)
 rw[e0,ZfX h r] at hw
 rcases hw with ⟨h1,_⟩|⟨_,h2,h3⟩
 · exact absurd h1 h0
 · refine⟨h2,?_⟩
   have e:=Lib.encode_decode (c++r).data.toList (by intro e;have:(c++r).size=0:=by rw[← ByteArray.size_data,← Array.length_toList,e];rfl
                                                    omega) (by
    show ¬ ((Utf8.decode (c++r) 0).1=65533∧(Utf8.decode (c++r) 0).2=1)
    exact fun hh=>h3 (Prod.ext hh.1 hh.2))
   have e2:Lib.decodeL (c++r).data.toList=Utf8.decode (c++r) 0:=rfl
   rw[e2,h2] at e
   rw[← Lib.byteCells_encodeRune,e,Lib.strCells_eq]
   congr 1
   simp[ByteArray.data_append]
end
section
open Go.RowKit Go.Lib
theorem Yo (a b:List ByteArray):catB (a++b)=catB a++catB b:=by
 induction a with
 | nil=>show catB b=ByteArray.empty++catB b;simp
 | cons c a ih=>rw[List.cons_append,XI,XI,ih,ByteArray.append_assoc]
theorem rune_le (t:ByteArray) (p:Nat):(Utf8.decode t p).1≤2147483647:=by
 rw[Lib.decode_at]
 have h0:=JG t p
 unfold ZW at h0
 generalize (t.get! p).toNat=b0 at h0 ⊢
 unfold Lib.decodeN
 repeat' split
 all_goals simp
 all_goals omega
theorem Zak (l:List ByteArray) (c:ByteArray) (r:List ByteArray) (h:IsCh c) :
 ∃ R:Nat,Utf8.decode (catB (l++c::r)) (catB l).size=(R,c.size)∧Lib.runeCells (R:Int)=Lib.strCells c∧R≤2147483647∧(catB l).size<(catB (l++c::r)).size∧(catB (l++[c])).size=(catB l).size+c.size:=by
 have h0:=h.1
 have e1:catB (l++c::r)=catB l++(c++catB r):=by rw[Yo,XI]
 have hs:(catB (l++c::r)).size=(catB l).size+(c.size+(catB r).size):=by rw[e1,ByteArray.size_append,ByteArray.size_append]
 have hd:=decodeGo_tail (catB (l++c::r)) (catB l).size (by omega)
 have e2:(catB (l++c::r)).extract (catB l).size (catB (l++c::r)).size=c++catB r:=by rw[e1];exact ZcS _ _
 rw[e2] at hd
 have e3:Lib.decodeGo (c++catB r)=Utf8.decode (c++catB r) 0:=by
  unfold Lib.decodeGo
  rw[if_neg (by rw[ByteArray.size_append];omega)]
 rw[e3] at hd
 obtain⟨k1,k2⟩:=Zfq c (catB r) h
 refine⟨(Utf8.decode (c++catB r) 0).1,?_,k2,rune_le _ _,by omega,?_⟩
 · rw[← hd,← k1]
 · rw[Yo,ByteArray.size_append,XI]
   show _+(c++ByteArray.empty).size=_
   simp
theorem ZcC (l:List ByteArray) (h:∀ c∈l,IsCh c) (k:Nat) (hk:k < l.length) :
 ∃ R K:Nat,Utf8.decode (catB l) (catB (l.take k)).size=(R,K)∧R≤2147483647∧(catB (l.take k)).size<(catB l).size∧(catB (l.take (k+1))).size=(catB (l.take k)).size+K∧(catB (l.take (k+1))).size≤(catB l).size∧0<K:=by
 have e:l=l.take k++l[k]::l.drop (k+1):=by rw[List.getElem_cons_drop,List.take_append_drop]
 have hc:IsCh l[k]:=h _ (List.getElem_mem hk)
 obtain⟨R,h1,_,h3,h4,h5⟩:=Zak (l.take k) l[k] (l.drop (k+1)) hc
 rw[← e] at h1 h4
 have e2:l.take (k+1)=l.take k++[l[k]]:=by rw[List.take_succ_eq_append_getElem hk]
 refine⟨R,l[k].size,h1,h3,h4,by rw[e2];exact h5,?_,Nat.pos_of_ne_zero hc.1⟩
 have e3:catB l=catB (l.take (k+1))++catB (l.drop (k+1)):=by rw[← Yo,List.take_append_drop]
 rw[e3,ByteArray.size_append];omega
theorem YO (l:List ByteArray) (k:Nat):(catB (l.take k)).size≤(catB l).size:=by
 have e3:catB l=catB (l.take k)++catB (l.drop k):=by rw[← Yo,List.take_append_drop]
 rw[e3,ByteArray.size_append];omega
theorem YF (l:List ByteArray) (k:Nat):(catB l).extract 0 (catB (l.take k)).size=catB (l.take k)∧(catB l).extract (catB (l.take k)).size (catB l).size=catB (l.drop k):=by
 have e3:catB l=catB (l.take k)++catB (l.drop k):=by rw[← Yo,List.take_append_drop]
 constructor
 · rw[e3,ByteArray.extract_append];simp
 · conv=>lhs;rw[e3]
   exact ZcS _ _
theorem Zdo {c:ByteArray} (h:IsCh c):c.size≤4:=h.2 ▸ Zdg c
theorem Z3 (l:List ByteArray) (h:∀ c∈l,IsCh c):(catB l).size≤4 * l.length:=by
 induction l with
 | nil=>show (0:Nat)≤_;omega
 | cons c l ih =>
   have:=ih (fun d hd=>h d (by simp[hd]))
   have h2:=Zdo (h c (by simp))
   rw[XI,ByteArray.size_append,List.length_cons];omega
end
section
open Go.RowKit Go.Lib
abbrev outV (n:Int):Value:=.iface 227 (.agg #[.int .i64 n])
def Zcl (l:List ByteArray) (w:World) (c:Value) (wr:World):Prop :=
 ∃ k:Nat,k≤l.length∧c=.int .i64 (k:Int)∧wr.heap[w.heap.size]?=some (.stringIter (catB l) (catB (l.take k)).size)∧Below w.heap.size w wr
theorem Y6 (l:List ByteArray) (hl:∀ c∈l,IsCh c) (hn:l.length < lots) (w:World) :
 Calls Tryz.prog 105 #[.string (catB l)] w fun e w'=>e=.returned (.int .i64 l.length)∧Below w.heap.size w w':=by
 have HL:=hid (fun k hk=>ZcC l hl k hk)
 unfold lots at hn
 clear hl
 go_enter Tryz.func105,Tryz.ntmps105
 go_wp2
 go_loopw [3] (fun c wr=>Zcl l w c wr) (fun _ wr=>(catB l).size - wr.iterPos w.heap.size)
 case atStart =>
  exact⟨0,Nat.zero_le _,rfl,heap_alloc_new w _,(Below.refl _ w).alloc (Nat.le_refl _) _⟩
 case round =>
  obtain⟨k,hk,rfl,hi,hb⟩:=hrel
  by_cases hlt:k<l.length
  · obtain⟨R,K,h1,h2,h3,h4,h5,h6⟩:=HL.out k hlt
    have hnx:=fun ty=>Lib.run_next_any_at (P:=Tryz.prog) _ w.heap.size (catB l) _ ty hi h3
    rw[h1] at hnx
    simp only at hnx
    have hi2:=iterAt_heap _ _ (catB l) _ ((catB (l.take k)).size+K) hi
    have hb2:=below_iterAt hb (Nat.le_refl _) (catB l) ((catB (l.take k)).size+K)
    clear h1 h2 HL
    generalize (catB (l.take k)).size=p at *
    go_wp2
    go_roundw
    case rel =>
     refine⟨k+1,hlt,by go_num,?_,hb2⟩
     rw[h4];exact hi2
    case measure =>
     rw[iterPos_of hi2,iterPos_of hi]
     omega
  · obtain rfl:k=l.length:=by omega
    rw[List.take_length] at hi
    have hnx:=fun ty=>Lib.run_next_end_at (P:=Tryz.prog) _ w.heap.size (catB l) _ ty hi (Nat.lt_irrefl _)
    go_wp2
    go_ret
    exact⟨rfl,hb⟩
def FindPost (l:List ByteArray) (off:Int) (w:World) (e:Ending) (w':World):Prop :=
 Below w.heap.size w w'∧((∃ o:Nat,off=o∧o≤l.length∧e=.returned (.tuple #[.int .i64 (catB (l.take o)).size,.nilIface]))∨((off<0∨(l.length:Int)<off)∧e=.returned (.tuple #[.int .i64 0,outV off])))
theorem Zc7 (l:List ByteArray) (hl:∀ c∈l,IsCh c) (hn:l.length < lots) (off:Int) (w:World) :
 Calls Tryz.prog 102 #[.string (catB l),.int .i64 off] w (FindPost l off w):=by
 have HL:=hid (fun k hk=>ZcC l hl k hk)
 unfold lots at hn
 clear hl
 go_enter Tryz.func102,Tryz.ntmps102
 go_wp2
 go_loopw [6] (fun c wr=>Zcl l w c wr∧(off<0∨intOf c≤off)) (fun _ wr=>(catB l).size - wr.iterPos w.heap.size)
 case atStart =>
  exact⟨⟨0,Nat.zero_le _,rfl,heap_alloc_new w _,(Below.refl _ w).alloc (Nat.le_refl _) _⟩,by simp[intOf];omega⟩
 case round =>
  obtain⟨⟨k,hk,rfl,hi,hb⟩,ho⟩:=hrel
  simp only[intOf] at ho
  by_cases hlt:k<l.length
  · obtain⟨R,K,h1,h2,h3,h4,h5,h6⟩:=HL.out k hlt
    have hnx:=fun ty=>Lib.run_next_any_at (P:=Tryz.prog) _ w.heap.size (catB l) _ ty hi h3
    rw[h1] at hnx
    simp only at hnx
    have hi2:=iterAt_heap _ _ (catB l) _ ((catB (l.take k)).size+K) hi
    have hb2:=below_iterAt hb (Nat.le_refl _) (catB l) ((catB (l.take k)).size+K)
    clear h1 h2 HL
    obtain⟨p,hp⟩:∃ p,(catB (l.take k)).size=p:=⟨_,rfl⟩
    rw[hp] at hnx hi2 hb2 hi h3 h4
    by_cases hoff:(k:Int)=off
    · have hoff':((k:Int) == off)=true:=by simpa using hoff
      go_wp2
      go_ret2
      exact⟨hb2,.inl ⟨k,hoff.symm,hk,by rw[hp];rfl⟩⟩
    · have hoff':((k:Int) == off)=false:=by simpa using hoff
      go_wp2
      go_roundw
      case rel =>
       refine⟨⟨k+1,hlt,by go_num,?_,hb2⟩,?_⟩
       · rw[h4];exact hi2
       · have e:(IntKind.i64.wrap ((k:Int)+1))=(k:Int)+1:=by rw[IntKind.wrap_i64];omega
         simp[intOf,e]
         omega
      case measure =>
       rw[iterPos_of hi2,iterPos_of hi]
       omega
  · obtain rfl:k=l.length:=by omega
    rw[List.take_length] at hi
    have hnx:=fun ty=>Lib.run_next_end_at (P:=Tryz.prog) _ w.heap.size (catB l) _ ty hi (Nat.lt_irrefl _)
    by_cases hoff:(l.length:Int)=off
    · have hoff':((l.length:Int) == off)=true:=by simpa using hoff
      go_wp2
      go_ret2
      exact⟨hb,.inl ⟨l.length,hoff.symm,Nat.le_refl _,by rw[List.take_length];rfl⟩⟩
    · have hoff':((l.length:Int) == off)=false:=by simpa using hoff
      go_wp2
      go_ret2
      exact⟨hb,.inr ⟨by omega,rfl⟩⟩
end
section
open Go.RowKit Go.Shelf
attribute [local go_sem] Oper.semAt_some
theorem ZaZ {w:World} {e:TypeId} {z n:Nat} {v:Value} {xs:List Value} (h:w.ownsRow 0 e z v n xs):∃ a c,v=.slice a n c:=by
 rcases ZB h with ⟨e1,e2⟩|⟨g,c,e1⟩
 · exact⟨none,0,by rw[e1,e2]⟩
 · exact⟨_,_,e1⟩
theorem Tryz.infoInt:(Tryz.prog.info? 3).map (fun i=>(i.zero,i.size,i.bytes))=some (some (.int .i64 0),1,8):=by kernel_rfl
theorem Ze5 {gf:Nat} {lb:Array Value} (eg:∀ args w,(callFunc gf args).run Tryz.prog w=.ok (.enter gf args) w) {xs:List Nat} (hlen:xs.length < lots) {w:World}
 (hseq:∀ (w1:World) (O:Nat→Prop),Below w.heap.size w w1→(∀ k,O k→w.heap.size≤k)→Jy Tryz.prog gf lb xs w1 O) :
 Calls Tryz.prog 137 #[.slice none 0 0,.func (.func gf) #[] lb] w fun e w'=>∃ v,e=.returned v∧w'.ownsRow 0 3 1 v xs.length (Zg xs)∧Below w.heap.size w w'∧(∀ b,v.ownBlock=some b→w.heap.size≤b):=by
 obtain⟨i0,hi,hz0,hz1,hz2⟩:=info_parts Tryz.infoInt
 refine callsIn_wide.1 (callsIn_of_wp_marks (F:=Fence.wide) (n:=1) Tryz.func137 rfl trivial ?_ rfl)
 simp only[Tryz.ntmps137,List.size_toArray,List.length_cons,List.length_nil,Nat.reduceAdd,Nat.reduceSub,Array.replicate_succ,Array.replicate_zero,List.push_toArray,List.append_toArray,List.nil_append,List.cons_append]
 gi_wp2
 obtain⟨wb,hwb⟩:∃ wb,w.alloc (.cells #[.slice none 0 0] 24)=wb:=⟨_,rfl⟩
 have hszb:wb.heap.size=w.heap.size+1:=by rw[← hwb];simp
 have hbb:Below w.heap.size w wb:=by rw[← hwb];exact(Below.refl _ w).alloc (Nat.le_refl _) _
 have x0:wb.heap[w.heap.size]?=some (.cells #[.slice none 0 0] 24 (0,0)):=by rw[← hwb];exact heap_alloc_new w _
 have hl2:xs.length<2000000:=by unfold lots at hlen;exact hlen
 rw[hwb]
 refine J4 (gf:=gf) (lb:=lb) rfl eg rfl (O:=fun b=>b=w.heap.size) (fun b e=>by omega) (hseq wb _ hbb (fun k e=>by omega))
  (fun pre O3 W=>∃ v,O3=(fun b=>b=w.heap.size∨v.ownBlock=some b)∧W.heap[w.heap.size]?=some (.cells #[v] 24 (0,0))∧W.ownsRow 0 3 1 v pre.length (Zg pre)∧v.ownBlock≠some w.heap.size∧Stp (fun b=>b=w.heap.size) O3 wb W)
  (fun _ _ _=>False) ?mI ?mIx ?h0
  (fun y=>Act.mk #[Value.slice none 0 0,Value.func (Fn.func gf) #[] lb,Value.pointer (some { block:=w.heap.size,off:=0 }),
    undef,Value.slice none 0 0,Value.int IntKind.i64 y,Value.func (Fn.func gf) #[] lb,Value.int IntKind.i64 y,undef,undef,undef,undef,undef] []) ?assign ?body ?done ?stop
 case mI =>
  rintro pre O3 X Y ⟨v,rfl,h2,h3,h4,h5⟩ hk
  exact⟨v,rfl,by rw[hk.block _ (Zc h2) (fun e=>e.1 (.inl rfl))];exact h2,hk.row h3 (fun b e e2=>e2.1 (.inr e)),h4,XW (Nat.le_refl _) h5 hk⟩
 case mIx=>intro pre O3 X Y h _;exact h
 case h0 =>
  refine⟨.slice none 0 0,?_,x0,World.ownsRow_nil _ _ _ _,by simp[Value.ownBlock],?_⟩
  · funext b;simp[Value.ownBlock]
  · exact Stp.refl (fun b e=>by omega)
 case assign =>
  intro m l' y W K hK
  dsimp only[encN]
  gi_wp2
  exact hK
 case body =>
  rintro m l' pre y O3 W hpre hO3 ⟨v,rfl,h2,h3,h4,h5⟩
  have hpl:pre.length+1≤xs.length:=by have:=hpre.length_le;simpa using this
  have f1:W.cell? ⟨w.heap.size,0,none⟩=some v:=Za h2 0
  have hlW:w.heap.size<W.heap.size:=Zc h2
  have H2:=hid h2
  have H3:=hid h3
  have H4:=hid h4
  have H5:=hid h5
  have HO:=hid hO3
  clear h2 h3 h4 h5 hO3 hpre x0
  gi_wp2_with (gi_at_builtin;refine wpListIn_append_own_at _ rfl _ _ 24 rfl 0 3 i0 (.int .i64 0) 1 8 Tryz.underlying24 hi hz0 hz1 hz2 rfl (by decide) v _ _ rfl (H3.out.alloc _) ⟨W.heap.size,0,none⟩ 1 1 [.int .i64 (y:Int)] rfl rfl (cell_one_new _ _ _) (by simp[Value.oneCell']) (by unfold maxLen;omega) (by omega) (Nat.zero_le _) ?_
               intro v' w1 hown' hgrow _ hob
               obtain⟨g',cap',rfl⟩:=ownsRow_succ hown'
               have hq1:=(hgrow.block w.heap.size (by simp only[World.size_alloc];omega) (fun e=>H4.out e.symm)).trans ((Below.heap_alloc _ _ _ hlW).trans H2.out)
               have hc1:w1.cell? ⟨w.heap.size,0,none⟩=some v:=Za hq1 0
               have hf1:=Zd hq1 0
               have HQ:=hid hq1
               have HW:=hid hown'
               have HG:=hid hgrow
               have HB:=hid hob
               clear hown' hgrow hob hq1)
  have hgb:v.ownBlock=some g'∨g'=W.heap.size+1:=by
   rcases HB.out with e|e
   · left;rw[← e];rfl
   · right;simpa[Value.ownBlock] using e
  have hg':g'≠w.heap.size:=by
   rcases hgb with e|e
   · rintro rfl;exact H4.out e
   · omega
  have hs:Stp (fun b=>b=w.heap.size∨v.ownBlock=some b) (fun b=>b=w.heap.size∨(Value.slice (some ⟨g',0,none⟩) (pre.length+1) cap').ownBlock=some b) W (w1.setCell ⟨w.heap.size,0,none⟩ (.slice (some ⟨g',0,none⟩) (pre.length+1) cap')):=by
   refine⟨?_,?_,?_⟩
   · exact(((Zb.refl (fun b=>b=w.heap.size∨v.ownBlock=some b) W).alloc _).trans (Zb.grown HG.out (fun k e=>.inl (.inl (.inr e))))).setCell (p:=⟨w.heap.size,0,none⟩) (.inl (.inl rfl)) _
   · rintro b (e|e)
     · exact .inl (.inl e)
     · have e':g'=b:=by simpa[Value.ownBlock] using e
       subst e'
       rcases hgb with e|e
       · exact .inl (.inr e)
       · exact .inr (by omega)
   · have hz:(w1.setCell ⟨w.heap.size,0,none⟩ (.slice (some ⟨g',0,none⟩) (pre.length+1) cap')).heap.size=w1.heap.size:=by simp
     rintro b (e|e)
     · rw[hz,e];exact Zc HQ.out
     · have e':g'=b:=by simpa[Value.ownBlock] using e
       subst e'
       rw[hz]
       exact(HW.out.lt g' rfl).2
  refine⟨_,hs,_,rfl,by rw[heap_setCell_same w1 _ 0 _ _ _ HQ.out];rfl,?_,by simpa[Value.ownBlock] using hg',H5.out.trans hs⟩
  rw[List.length_append]
  have:=XV HW.out (p:=⟨w.heap.size,0,none⟩) (by simpa[Value.ownBlock] using hg') (.slice (some ⟨g',0,none⟩) (pre.length+1) cap')
  simpa[Zg] using this
 case done =>
  rintro O5 W st5 hn5 ⟨v,rfl,h2,h3,h4,h5⟩ hD5
  obtain⟨sa,sc,hkv⟩:∃ a c,v=.slice a xs.length c:=by
   rcases ZB h3 with ⟨e1,e2⟩|⟨g,c,e1⟩
   · exact⟨none,0,by rw[e1,e2]⟩
   · exact⟨_,_,e1⟩
  subst hkv
  have f1:W.cell? ⟨w.heap.size,0,none⟩=some (.slice sa xs.length sc):=Za h2 0
  have H:=hid (And.intro st5 (And.intro hn5 (And.intro h3 (And.intro h4 hD5))))
  have HZ:=hid hszb
  clear st5 hn5 h2 h3 h4 h5 hD5 x0 hszb
  gi_wp2
  obtain⟨st5,hn5,h3,h4,hD5⟩:=H.out
  have hszb:=HZ.out
  refine Y9 [wb.heap.size] _ (by simp) (fun D hm=>?_) (fun w' hk'=>⟨.slice sa xs.length sc,?_,_,rfl,?_,?_,?_⟩)
  · obtain rfl:D=wb.heap.size:=by simpa using hm
    exact hD5
  · exact results_tmp (fn:=Tryz.f137) (t:=4) rfl _ _ _
  · refine hk'.row h3 (fun b e e2=>?_)
    have:b=wb.heap.size:=by simpa using e2
    subst this
    exact hn5 (.inr e)
  · have k1:Zb (fun _=>False) w wb:=Zb.of_below hbb
    have k2:Zb (fun _=>False) w W:=k1.trans (st5.keeps.mono (fun b _ e=>.inr (by omega)))
    exact(k2.trans (hk'.mono (fun b _ e=>.inr (by simp at e;omega)))).below
  · intro b e
    rcases st5.gains b (.inr e) with e1|e1
    · omega
    · omega
 case stop =>
  rintro O5 pre W hpre st5 hn5 h hD5
  exact h.elim
theorem Zfk {gf:Nat} {lb:Array Value} (eg:∀ args w,(callFunc gf args).run Tryz.prog w=.ok (.enter gf args) w) {xs:List Nat} (hlen:xs.length < lots) {w:World}
 (hseq:∀ (w1:World) (O:Nat→Prop),Below w.heap.size w w1→(∀ k,O k→w.heap.size≤k)→Jy Tryz.prog gf lb xs w1 O) :
 Calls Tryz.prog 89 #[.func (.func gf) #[] lb] w fun e w'=>∃ a c,e=.returned (.slice a xs.length c)∧w'.ownsRow 0 3 1 (.slice a xs.length c) xs.length (Zg xs)∧Below w.heap.size w w'∧(∀ b,(Value.slice a xs.length c).ownBlock=some b→w.heap.size≤b):=by
 have C:=hid (Ze5 eg hlen hseq)
 clear hseq eg
 go_enter Tryz.func89,Tryz.ntmps89
 go_wp2_with (go_at_call 137;refine C.out.mono ?_;rintro e w1 ⟨v,rfl,h1,h2,h3⟩;obtain⟨sa,sc,rfl⟩:=ZaZ h1)
 go_ret
 exact⟨_,_,rfl,h1,h2,h3⟩
end
section
open Go.RowKit
section
variable {w:World} {F:Nat→Prop} {bd bn cap:Nat} {rn:List RN} {rv:Value} {s:List Nd} {rs:List Sp}
theorem Zb3 (n k:Int) (f0 f1:Int) (h1:f1≠0) (hT:Calls Tryz.prog 123 #[.pointer (some ⟨bd,0,none⟩),.int .i64 n,.int .i64 k] (one0 w) fun e w'=>e=.returned (Zi f0 f1)∧Below (one0 w).heap.size (one0 w) w') :
 Calls Tryz.prog 79 #[.pointer (some ⟨bd,0,none⟩),.int .i64 n,.int .i64 k] w fun e w'=>e=.returned (.tuple #[.int .i64 0,Zi f0 f1])∧Below w.heap.size w w':=by
 have CF:=hid hT
 have h1b:(f1 == 0)=false:=by simpa using h1
 have HTB:=hid (Z1 w)
 clear hT h1
 go_enter Tryz.func79,Tryz.ntmps79
 go_wp2_with (first
  | (go_at_call 123;refine CF.out.mono ?_;rintro e w1 ⟨rfl,hb1⟩
     have hq2:w1.heap[w.heap.size]?=some (.cells #[.int .i64 0,.int .i64 0] 32 (0,0)):=by
      rw[hb1.block _ (by simp)]
      exact heap_alloc_new w _
     have hs1:w.heap.size+1≤w1.heap.size:=by have:=hb1.size;simpa using this
     have HB1:=hid (HTB.out.trans (hb1.mono HTB.out.size))
     have HQ2:=hid hq2
     clear hb1 hq2)
  | (go_at_call 124;refine(Zy f0 f1 _).mono ?_;rintro e w2 ⟨rfl,hb2⟩
     have hf2:w2.heap[w1.heap.size]?=some (.cells #[.int .i64 f0,.int .i64 f1] 32 (0,0)):=(hb2.block _ (by simp)).trans (heap_alloc_new w1 _)
     have hz2:w2.heap[w.heap.size]?=some (.cells #[.int .i64 0,.int .i64 0] 32 (0,0)) :=
      (hb2.block _ (by simp;omega)).trans ((((Below.refl _ w1).alloc (Nat.le_refl _) _).block _ (by omega)).trans HQ2.out)
     have cf0:w2.cell? ⟨w1.heap.size,0,none⟩=some (.int .i64 f0):=Za hf2 0
     have cf1:w2.cell? ⟨w1.heap.size,1,none⟩=some (.int .i64 f1):=Za hf2 1
     have cz0:w2.cell? ⟨w.heap.size,0,none⟩=some (.int .i64 0):=Za hz2 0
     have cz1:w2.cell? ⟨w.heap.size,1,none⟩=some (.int .i64 0):=Za hz2 1
     have fz0:=Zd hz2 0
     have fz1:=Zd hz2 1
     have HB2:=hid ((HB1.out.alloc HB1.out.size _).trans (hb2.mono (Nat.le_trans HB1.out.size (by simp))))
     have hs2:w.heap.size+1≤w2.heap.size:=by have:=hb2.size;simp at this;omega
     clear hb2 hf2
     skip
     rw[h1b]))
 go_region
 all_goals
  go_wp2
  refine bodyPost_ret (v:=.tuple #[.int .i64 0,Zi f0 f1]) (by simp[results,Tryz.results79,go_sem, *]) rfl ?_
  exact⟨rfl,((HB2.out.setCell (p:=⟨w.heap.size,0,none⟩) (Nat.le_refl _) _).setCell (p:=⟨w.heap.size,1,none⟩) (Nat.le_refl _) _).drew⟩
theorem ZhK (hD:Zf w F bd bn cap rn rv s rs) (n k:Nat) (x:Nd) (hx:s[n]?=some x) (ht:x.t=true) (hk:k≤x.cs.length) (h40:40≤s.length) :
 Calls Tryz.prog 79 #[.pointer (some ⟨bd,0,none⟩),.int .i64 n,.int .i64 k] w fun e w'=>e=.returned (.tuple #[.int .i64 0,Zi n 7])∧Below w.heap.size w w':=by
 have CF:=hid (XX (hD.below (Z1 w)) n k x hx ht hk)
 have h1b:((0:Int) == 0)=true:=rfl
 have h40b:decide ((40:Int)≤(s.length:Int))=true:=decide_eq_true (by omega)
 have h0:=hD.nodesCell
 have hlt:=hD.lt
 have HTB:=hid (Z1 w)
 clear hD hx ht hk
 go_enter Tryz.func79,Tryz.ntmps79
 go_wp2_with (first
  | (go_at_call 123;refine CF.out.mono ?_;rintro e w1 ⟨rfl,hb1⟩
     have hq2:w1.heap[w.heap.size]?=some (.cells #[.int .i64 0,.int .i64 0] 32 (0,0)):=by
      rw[hb1.block _ (by simp)]
      exact heap_alloc_new w _
     have hs1:w.heap.size+1≤w1.heap.size:=by have:=hb1.size;simpa using this
     have HB1:=hid (HTB.out.trans (hb1.mono HTB.out.size))
     have HQ2:=hid hq2
     clear hb1 hq2)
  | (go_at_call 124;refine(Zy 0 0 _).mono ?_;rintro e w2 ⟨rfl,hb2⟩
     have hf2:w2.heap[w1.heap.size]?=some (.cells #[.int .i64 0,.int .i64 0] 32 (0,0)):=(hb2.block _ (by simp)).trans (heap_alloc_new w1 _)
     have hz2:w2.heap[w.heap.size]?=some (.cells #[.int .i64 0,.int .i64 0] 32 (0,0)) :=
      (hb2.block _ (by simp;omega)).trans ((((Below.refl _ w1).alloc (Nat.le_refl _) _).block _ (by omega)).trans HQ2.out)
     have cf0:w2.cell? ⟨w1.heap.size,0,none⟩=some (.int .i64 0):=Za hf2 0
     have cf1:w2.cell? ⟨w1.heap.size,1,none⟩=some (.int .i64 0):=Za hf2 1
     have cz0:w2.cell? ⟨w.heap.size,0,none⟩=some (.int .i64 0):=Za hz2 0
     have cz1:w2.cell? ⟨w.heap.size,1,none⟩=some (.int .i64 0):=Za hz2 1
     have fz0:=Zd hz2 0
     have fz1:=Zd hz2 1
     have HB2:=hid ((HB1.out.alloc HB1.out.size _).trans (hb2.mono (Nat.le_trans HB1.out.size (by simp))))
     have hs2:w.heap.size+1≤w2.heap.size:=by have:=hb2.size;simp at this;omega
     clear hb2 hf2
     have HZ:=hid hz2
     have d0:=(HB2.out.cell (p:=⟨bd,0,none⟩) hlt.1).trans h0
     clear hz2
     rw[h1b])
  | (go_at_call 48;refine(ZK _ _ _).mono ?_;rintro e w5 ⟨rfl,hw5⟩
     have hz5:w5.heap[w.heap.size]?=some (.cells #[.int .i64 0,.int .i64 0] 32 (0,0)):=by rw[hw5];exact(Below.heap_alloc _ _ _ (Zc HZ.out)).trans HZ.out
     have cz5:w5.cell? ⟨w.heap.size,0,none⟩=some (.int .i64 0):=Za hz5 0
     have cz6:w5.cell? ⟨w.heap.size,1,none⟩=some (.int .i64 0):=Za hz5 1
     have fz5:=Zd hz5 0
     have fz6:=Zd hz5 1
     have hs5:=Zc hz5
     have HB5:Hid (Below w.heap.size w w5):=by rw[hw5];exact HB2.out.alloc HB2.out.size _
     clear hz5 hw5))
 refine bodyPost_ret (v:=.tuple #[.int .i64 0,Zi n 7]) (by simp[results,Tryz.results79,go_sem,cz5,cz6,fz5,fz6,hs5]) rfl ?_
 exact⟨rfl,(HB5.out.setCell (p:=⟨w.heap.size,0,none⟩) (Nat.le_refl _) _).setCell (p:=⟨w.heap.size,1,none⟩) (Nat.le_refl _) _⟩
end
end
section
open Go.RowKit
section
variable {w:World} {F:Nat→Prop} {bd bn cap:Nat} {rn:List RN} {rv:Value} {s:List Nd} {rs:List Sp}
theorem Zfp (wf:WF s) (hD:Zf w F bd bn cap rn rv s rs) (n k n2 k2:Nat) (tf:Nat→Nat) (htf:∀ m,m < s.length→Zm s m (tf m)) (hn:n < s.length) (hn2:n2 < s.length) (hf:Zs s n k=(0,0)) (hg:Zs s n2 k2=(0,0)) (hne:tf n≠tf n2) :
 Calls Tryz.prog 80 #[.pointer (some ⟨bd,0,none⟩),.agg #[.int .i64 n,.int .i64 k],.agg #[.int .i64 n2,.int .i64 k2]] w fun e w'=>e=.returned (.tuple #[.int .i64 0,Zi n2 9])∧Below w.heap.size w w':=by
 have CF:=hid (Yz (hD.below (XZ w n k n2 k2)) n k)
 rw[hf] at CF
 have CG:=hid (fun w' (hb:Below w.heap.size w w')=>Yz (hD.below hb) n2 k2)
 rw[hg] at CG
 have CT:=hid (fun w' (hb:Below w.heap.size w w') m (hm:m<s.length) q=>XB (w:=w'.drewN q) wf (hD.below (Zj hb q)) (htf m hm) hm)
 have hneI:¬ (tf n:Int)=(tf n2:Int):=fun e=>hne (by omega)
 have hd:decide ((tf n:Int)=(tf n2:Int))=false:=decide_eq_false hneI
 clear hD wf htf
 go_enter Tryz.func80,Tryz.ntmps80
 go_wp2_with (first
  | (go_at_call 127;refine(CG.out w2 HB2.out).mono ?_;rintro e w3 ⟨rfl,hb3⟩
     have hc3:=HC2.out.below hb3
     obtain⟨-,-,-,⟨cf0,cf1⟩⟩:=hc3.cells
     obtain⟨-,⟨ff0,ff1⟩⟩:=hc3.frozen
     have HC3:=hid hc3
     have HB3:=hid (HB2.out.trans (hb3.mono HB2.out.size))
     clear hc3 hb3)
  | (go_at_call 127;refine CF.out.mono ?_;rintro e w1 ⟨rfl,hb1⟩
     have HB1:=hid hb1
     clear hb1)
  | (go_at_call 124;have hc4:=HC3.out.put 0 0;refine(Zy 0 0 _).mono ?_;rintro e w4 ⟨rfl,hb4⟩
     have hc5:=hc4.below hb4
     obtain⟨⟨da0,da1⟩,⟨db0,db1⟩,⟨cz0,cz1⟩,⟨cg0,cg1⟩⟩:=hc5.cells
     obtain⟨⟨fz0,fz1⟩,-⟩:=hc5.frozen
     have HC5:=hid hc5
     have HB5:=hid (((HB3.out.setCell (p:=⟨w1.heap.size,0,none⟩) (by have:=HC3.out.gt;show w.heap.size≤w1.heap.size;omega) (.int .i64 0)).setCell (p:=⟨w1.heap.size,1,none⟩) (by have:=HC3.out.gt;show w.heap.size≤w1.heap.size;omega) (.int .i64 0)).trans (hb4.mono (by have:=HB3.out.size;simpa using this)))
     clear hc4 hc5 hb4)
  | (go_at_call 124;refine(Zy 0 0 _).mono ?_;rintro e w2 ⟨rfl,hb2⟩
     obtain⟨hc2,hB2⟩:=Cmp.first HB1.out hb2
     obtain⟨⟨ca0,ca1⟩,⟨cb0,cb1⟩,-,-⟩:=hc2.cells
     have HC2:=hid hc2
     have HB2:=hid hB2
     clear hb2 hc2 hB2))
 go_quiet ((go_at_call 128;exact Calls.quiet_of_same (CT.out w4 HB5.out _ (by first|exact hn|exact hn2) _)))
 have hbne:((tf n:Int) != (tf n2:Int))=true:=by simpa using hneI
 rw[hbne]
 go_wp2_with (go_at_call 48;refine(ZK _ _ _).mono ?_;rintro e w5 ⟨rfl,h5⟩
              have hb5:Below w4.heap.size w4 w5:=by rw[h5];exact(Zj (Below.refl _ w4) nq).alloc (Nat.le_refl _) _
              have hc6:=HC5.out.below hb5
              obtain⟨-,-,⟨gz0,gz1⟩,-⟩:=hc6.cells
              obtain⟨⟨gf0,gf1⟩,-⟩:=hc6.frozen
              have HB6:=hid (HB5.out.trans (hb5.mono HB5.out.size))
              clear h5 hb5 hc6)
 refine bodyPost_ret (v:=.tuple #[.int .i64 0,Zi n2 9]) (by simp[results,Tryz.results80,go_sem, *]) rfl ?_
 exact⟨rfl,(HB6.out.setCell (p:=⟨w.heap.size+1+1,0,none⟩) (by show w.heap.size≤w.heap.size+1+1;omega) _).setCell (p:=⟨w.heap.size+1+1,1,none⟩) (by show w.heap.size≤w.heap.size+1+1;omega) _⟩
end
end
end Go.Proofs.YtabogkonklplcaaGreatDoor
