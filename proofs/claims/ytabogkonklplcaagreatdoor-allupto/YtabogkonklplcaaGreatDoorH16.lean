import Derived.Test.YtabogkonklplcaaGreatDoorH14
import Derived.Deep.DeepFit
import Derived.Test.YtabogkonklplcaaGreatDoorH07
import Derived.Test.YtabogkonklplcaaGreatDoorH15
import Derived.Maps.AppendAt
import Derived.Maps.OwnIn
namespace Go.Proofs.YtabogkonklplcaaGreatDoor
set_option linter.unusedSimpArgs false
set_option linter.unusedVariables false
set_option maxRecDepth 20000
set_option maxHeartbeats 8000000
section
open Go.RowKit Go.Lib
abbrev outV (n:Int):Value:=.iface 227 (.agg #[.int .i64 n])
def Zcl (l:List ByteArray) (w:World) (c:Value) (wr:World):Prop :=
 ∃ k:Nat,k≤l.length∧c=.int .i64 (k:Int)∧wr.heap[w.heap.size]?=some (.stringIter (catB l) (catB (l.take k)).size)∧Below w.heap.size w wr
theorem Y6 (l:List ByteArray) (hl:∀ c∈l,IsCh c) (hn:l.length < lots) (w:World) :
 Calls Tryz.prog 105 #[.string (catB l)] w fun e w'=>e=.returned (.int .i64 l.length)∧Below w.heap.size w w':=by
 have HL:=hid (fun k hk=>ZcC l hl k hk)
 unfold lots at hn
 clear hl
 go_enter Tryz.func105,Tryz.ntmps105
 go_wp2
 go_loopw [3] (fun c wr=>Zcl l w c wr) (fun _ wr=>(catB l).size - wr.iterPos w.heap.size)
 case atStart =>
  exact⟨0,Nat.zero_le _,rfl,heap_alloc_new w _,(Below.refl _ w).alloc (Nat.le_refl _) _⟩
 case round =>
  obtain⟨k,hk,rfl,hi,hb⟩:=hrel
  by_cases hlt:k<l.length
  · obtain⟨R,K,h1,h2,h3,h4,h5,h6⟩:=HL.out k hlt
    have hnx:=fun ty=>Lib.run_next_any_at (P:=Tryz.prog) _ w.heap.size (catB l) _ ty hi h3
    rw[h1] at hnx
    simp only at hnx
    have hi2:=iterAt_heap _ _ (catB l) _ ((catB (l.take k)).size+K) hi
    have hb2:=below_iterAt hb (Nat.le_refl _) (catB l) ((catB (l.take k)).size+K)
    clear h1 h2 HL
    generalize (catB (l.take k)).size=p at *
    go_wp2
    go_roundw
    case rel =>
     refine⟨k+1,hlt,by go_num,?_,hb2⟩
     rw[h4];exact hi2
    case measure =>
     rw[iterPos_of hi2,iterPos_of hi]
     omega
  · obtain rfl:k=l.length:=by omega
    rw[List.take_length] at hi
    have hnx:=fun ty=>Lib.run_next_end_at (P:=Tryz.prog) _ w.heap.size (catB l) _ ty hi (Nat.lt_irrefl _)
    go_wp2
    go_ret
    exact⟨rfl,hb⟩
def FindPost (l:List ByteArray) (off:Int) (w:World) (e:Ending) (w':World):Prop :=
 Below w.heap.size w w'∧((∃ o:Nat,off=o∧o≤l.length∧e=.returned (.tuple #[.int .i64 (catB (l.take o)).size,.nilIface]))∨((off<0∨(l.length:Int)<off)∧e=.returned (.tuple #[.int .i64 0,outV off])))
theorem Zc5 (l:List ByteArray) (hl:∀ c∈l,IsCh c) (hn:l.length < lots) (off:Int) (w:World) :
 Calls Tryz.prog 102 #[.string (catB l),.int .i64 off] w (FindPost l off w):=by
 have HL:=hid (fun k hk=>ZcC l hl k hk)
 unfold lots at hn
 clear hl
 go_enter Tryz.func102,Tryz.ntmps102
 go_wp2
 go_loopw [6] (fun c wr=>Zcl l w c wr∧(off<0∨intOf c≤off)) (fun _ wr=>(catB l).size - wr.iterPos w.heap.size)
 case atStart =>
  exact⟨⟨0,Nat.zero_le _,rfl,heap_alloc_new w _,(Below.refl _ w).alloc (Nat.le_refl _) _⟩,by simp[intOf];omega⟩
 case round =>
  obtain⟨⟨k,hk,rfl,hi,hb⟩,ho⟩:=hrel
  simp only[intOf] at ho
  by_cases hlt:k<l.length
  · obtain⟨R,K,h1,h2,h3,h4,h5,h6⟩:=HL.out k hlt
    have hnx:=fun ty=>Lib.run_next_any_at (P:=Tryz.prog) _ w.heap.size (catB l) _ ty hi h3
    rw[h1] at hnx
    simp only at hnx
    have hi2:=iterAt_heap _ _ (catB l) _ ((catB (l.take k)).size+K) hi
    have hb2:=below_iterAt hb (Nat.le_refl _) (catB l) ((catB (l.take k)).size+K)
    clear h1 h2 HL
    obtain⟨p,hp⟩:∃ p,(catB (l.take k)).size=p:=⟨_,rfl⟩
    rw[hp] at hnx hi2 hb2 hi h3 h4
    by_cases hoff:(k:Int)=off
    · have hoff':((k:Int) == off)=true:=by simpa using hoff
      go_wp2
      go_ret2
      exact⟨hb2,.inl ⟨k,hoff.symm,hk,by rw[hp];rfl⟩⟩
    · have hoff':((k:Int) == off)=false:=by simpa using hoff
      go_wp2
      go_roundw
      case rel =>
       refine⟨⟨k+1,hlt,by go_num,?_,hb2⟩,?_⟩
       · rw[h4];exact hi2
       · have e:(IntKind.i64.wrap ((k:Int)+1))=(k:Int)+1:=by rw[IntKind.wrap_i64];omega
         simp[intOf,e]
         omega
      case measure =>
       rw[iterPos_of hi2,iterPos_of hi]
       omega
  · obtain rfl:k=l.length:=by omega
    rw[List.take_length] at hi
    have hnx:=fun ty=>Lib.run_next_end_at (P:=Tryz.prog) _ w.heap.size (catB l) _ ty hi (Nat.lt_irrefl _)
    by_cases hoff:(l.length:Int)=off
    · have hoff':((l.length:Int) == off)=true:=by simpa using hoff
      go_wp2
      go_ret2
      exact⟨hb,.inl ⟨l.length,hoff.symm,Nat.le_refl _,by rw[List.take_length];rfl⟩⟩
    · have hoff':((l.length:Int) == off)=false:=by simpa using hoff
      go_wp2
      go_ret2
      exact⟨hb,.inr ⟨by omega,rfl⟩⟩
end
section
open Go.RowKit Go.Extern.Stop Go.Stop Go.Extern
theorem Zal (w:World):Sem.run Tryz.prog (callFunc 240 #[.agg #[.pointer (some ⟨7,30,none⟩)]]) w=.ok (Next.value (.bool true)) w:=by kernel_rfl
theorem ZcV (v:Value) (w:World):(Instr.typeAssert (.iface 227 v) 29 151 true).run Tryz.prog w=.ok (.tuple #[.nilIface,.bool false]) w:=run_typeAssert_lacksB Tryz.underlying151 (by kernel_rfl) (by kernel_rfl) v _ w
theorem Zc2 (v:Value) (w:World):(Instr.typeAssert (.iface 227 v) 29 154 true).run Tryz.prog w=.ok (.tuple #[.iface 227 v,.bool true]) w:=by kernel_rfl
theorem eq_nilP (y:Int) (w:World):(binOp .eql 29 .nilIface (.iface 30 (.int .i64 y))).run Tryz.prog w=.ok (.bool false) w:=by kernel_rfl
theorem ZcP (n y:Int) (w:World):(binOp .eql 29 (outV n) (.iface 30 (.int .i64 y))).run Tryz.prog w=.ok (.bool false) w:=by kernel_rfl
theorem eq_PP (w:World):(binOp .eql 29 (.iface 30 (.int .i64 3)) (.iface 30 (.int .i64 3))).run Tryz.prog w=.ok (.bool true) w:=by kernel_rfl
theorem Zaz (y:Int) (w:World):Calls Tryz.prog 22 #[.nilIface,.iface 30 (.int .i64 y)] w fun e w'=>e=.returned (.bool false)∧w'=w:=by
 have e0:=eq_nilP
 go_enter Tryz.func22,Tryz.ntmps22
 go_wp2
 go_ret
 exact⟨rfl,rfl⟩
theorem is_out (n y:Int) (w:World):Calls Tryz.prog 22 #[outV n,.iface 30 (.int .i64 3)] w fun e w'=>e=.returned (.bool true)∧Below w.heap.size w w':=by
 have h10:=YJ
 have tO:=Y0
 have tC:=Zal
 have ni:=ZcV
 have nu:=Zc2
 have e1:=ZcP
 have e2:=eq_PP
 go_enter Tryz.func22,Tryz.ntmps22
 go_wp2
 refine wp_loop_rounds 2 ?_
 rw[rounds_succ]
 go_wp2
 rw[rounds_succ]
 go_wp2
 go_ret
 exact⟨rfl,by go_grown⟩
end
section
open Go.RowKit Go.Shelf
attribute [local go_sem] Oper.semAt_some
theorem ZaZ {w:World} {e:TypeId} {z n:Nat} {v:Value} {xs:List Value} (h:w.ownsRow 0 e z v n xs):∃ a c,v=.slice a n c:=by
 rcases ZB h with ⟨e1,e2⟩|⟨g,c,e1⟩
 · exact⟨none,0,by rw[e1,e2]⟩
 · exact⟨_,_,e1⟩
theorem Tryz.infoInt:(Tryz.prog.info? 3).map (fun i=>(i.zero,i.size,i.bytes))=some (some (.int .i64 0),1,8):=by kernel_rfl
theorem Ze9 {gf:Nat} {lb:Array Value} (eg:∀ args w,(callFunc gf args).run Tryz.prog w=.ok (.enter gf args) w) {xs:List Nat} (hlen:xs.length < lots) {w:World}
 (hseq:∀ (w1:World) (O:Nat→Prop),Below w.heap.size w w1→(∀ k,O k→w.heap.size≤k)→Jv Tryz.prog gf lb xs w1 O) :
 Calls Tryz.prog 137 #[.slice none 0 0,.func (.func gf) #[] lb] w fun e w'=>∃ v,e=.returned v∧w'.ownsRow 0 3 1 v xs.length (Zg xs)∧Below w.heap.size w w'∧(∀ b,v.ownBlock=some b→w.heap.size≤b):=by
 obtain⟨i0,hi,hz0,hz1,hz2⟩:=info_parts Tryz.infoInt
 refine callsIn_wide.1 (callsIn_of_wp_marks (F:=Fence.wide) (n:=1) Tryz.func137 rfl trivial ?_ rfl)
 simp only[Tryz.ntmps137,List.size_toArray,List.length_cons,List.length_nil,Nat.reduceAdd,Nat.reduceSub,Array.replicate_succ,Array.replicate_zero,List.push_toArray,List.append_toArray,List.nil_append,List.cons_append]
 gi_wp2
 obtain⟨wb,hwb⟩:∃ wb,w.alloc (.cells #[.slice none 0 0] 24)=wb:=⟨_,rfl⟩
 have hszb:wb.heap.size=w.heap.size+1:=by rw[← hwb];simp
 have hbb:Below w.heap.size w wb:=by rw[← hwb];exact(Below.refl _ w).alloc (Nat.le_refl _) _
 have x0:wb.heap[w.heap.size]?=some (.cells #[.slice none 0 0] 24 (0,0)):=by rw[← hwb];exact heap_alloc_new w _
 have hl2:xs.length<2000000:=by unfold lots at hlen;exact hlen
 rw[hwb]
 refine J4 (gf:=gf) (lb:=lb) rfl eg rfl (O:=fun b=>b=w.heap.size) (fun b e=>by omega) (hseq wb _ hbb (fun k e=>by omega))
  (fun pre O3 W=>∃ v,O3=(fun b=>b=w.heap.size∨v.ownBlock=some b)∧W.heap[w.heap.size]?=some (.cells #[v] 24 (0,0))∧W.ownsRow 0 3 1 v pre.length (Zg pre)∧v.ownBlock≠some w.heap.size∧Stp (fun b=>b=w.heap.size) O3 wb W)
  (fun _ _ _=>False) ?mI ?mIx ?h0
  (fun y=>Act.mk #[Value.slice none 0 0,Value.func (Fn.func gf) #[] lb,Value.pointer (some { block:=w.heap.size,off:=0 }),
    undef,Value.slice none 0 0,Value.int IntKind.i64 y,Value.func (Fn.func gf) #[] lb,Value.int IntKind.i64 y,undef,undef,undef,undef,undef] []) ?assign ?body ?done ?stop
 case mI =>
  rintro pre O3 X Y ⟨v,rfl,h2,h3,h4,h5⟩ hk
  exact⟨v,rfl,by rw[hk.block _ (Zc h2) (fun e=>e.1 (.inl rfl))];exact h2,hk.row h3 (fun b e e2=>e2.1 (.inr e)),h4,XW (Nat.le_refl _) h5 hk⟩
 case mIx=>intro pre O3 X Y h _;exact h
 case h0 =>
  refine⟨.slice none 0 0,?_,x0,World.ownsRow_nil _ _ _ _,by simp[Value.ownBlock],?_⟩
  · funext b;simp[Value.ownBlock]
  · exact Stp.refl (fun b e=>by omega)
 case assign =>
  intro m l' y W K hK
  dsimp only[encN]
  gi_wp2
  exact hK
 case body =>
  rintro m l' pre y O3 W hpre hO3 ⟨v,rfl,h2,h3,h4,h5⟩
  have hpl:pre.length+1≤xs.length:=by have:=hpre.length_le;simpa using this
  have f1:W.cell? ⟨w.heap.size,0,none⟩=some v:=Za h2 0
  have hlW:w.heap.size<W.heap.size:=Zc h2
  have H2:=hid h2
  have H3:=hid h3
  have H4:=hid h4
  have H5:=hid h5
  have HO:=hid hO3
  clear h2 h3 h4 h5 hO3 hpre x0
  gi_wp2_with (gi_at_builtin;refine wpListIn_append_own_at _ rfl _ _ 24 rfl 0 3 i0 (.int .i64 0) 1 8 Tryz.underlying24 hi hz0 hz1 hz2 rfl (by decide) v _ _ rfl (H3.out.alloc _) ⟨W.heap.size,0,none⟩ 1 1 [.int .i64 (y:Int)] rfl rfl (cell_one_new _ _ _) (by simp[Value.oneCell']) (by unfold maxLen;omega) (by omega) (Nat.zero_le _) ?_
               intro v' w1 hown' hgrow _ hob
               obtain⟨g',cap',rfl⟩:=ownsRow_succ hown'
               have hq1:=(hgrow.block w.heap.size (by simp only[World.size_alloc];omega) (fun e=>H4.out e.symm)).trans ((Below.heap_alloc _ _ _ hlW).trans H2.out)
               have hc1:w1.cell? ⟨w.heap.size,0,none⟩=some v:=Za hq1 0
               have hf1:=Zd hq1 0
               have HQ:=hid hq1
               have HW:=hid hown'
               have HG:=hid hgrow
               have HB:=hid hob
               clear hown' hgrow hob hq1)
  have hgb:v.ownBlock=some g'∨g'=W.heap.size+1:=by
   rcases HB.out with e|e
   · left;rw[← e];rfl
   · right;simpa[Value.ownBlock] using e
  have hg':g'≠w.heap.size:=by
   rcases hgb with e|e
   · rintro rfl;exact H4.out e
   · omega
  have hs:Stp (fun b=>b=w.heap.size∨v.ownBlock=some b) (fun b=>b=w.heap.size∨(Value.slice (some ⟨g',0,none⟩) (pre.length+1) cap').ownBlock=some b) W (w1.setCell ⟨w.heap.size,0,none⟩ (.slice (some ⟨g',0,none⟩) (pre.length+1) cap')):=by
   refine⟨?_,?_,?_⟩
   · exact(((Zb.refl (fun b=>b=w.heap.size∨v.ownBlock=some b) W).alloc _).trans (Zb.grown HG.out (fun k e=>.inl (.inl (.inr e))))).setCell (p:=⟨w.heap.size,0,none⟩) (.inl (.inl rfl)) _
   · rintro b (e|e)
     · exact .inl (.inl e)
     · have e':g'=b:=by simpa[Value.ownBlock] using e
       subst e'
       rcases hgb with e|e
       · exact .inl (.inr e)
       · exact .inr (by omega)
   · have hz:(w1.setCell ⟨w.heap.size,0,none⟩ (.slice (some ⟨g',0,none⟩) (pre.length+1) cap')).heap.size=w1.heap.size:=by simp
     rintro b (e|e)
     · rw[hz,e];exact Zc HQ.out
     · have e':g'=b:=by simpa[Value.ownBlock] using e
       subst e'
       rw[hz]
       exact(HW.out.lt g' rfl).2
  refine⟨_,hs,_,rfl,by rw[heap_setCell_same w1 _ 0 _ _ _ HQ.out];rfl,?_,by simpa[Value.ownBlock] using hg',H5.out.trans hs⟩
  rw[List.length_append]
  have:=XV HW.out (p:=⟨w.heap.size,0,none⟩) (by simpa[Value.ownBlock] using hg') (.slice (some ⟨g',0,none⟩) (pre.length+1) cap')
  simpa[Zg] using this
 case done =>
  rintro O5 W st5 hn5 ⟨v,rfl,h2,h3,h4,h5⟩ hD5
  obtain⟨sa,sc,hkv⟩:∃ a c,v=.slice a xs.length c:=by
   rcases ZB h3 with ⟨e1,e2⟩|⟨g,c,e1⟩
   · exact⟨none,0,by rw[e1,e2]⟩
   · exact⟨_,_,e1⟩
  subst hkv
  have f1:W.cell? ⟨w.heap.size,0,none⟩=some (.slice sa xs.length sc):=Za h2 0
  have H:=hid (And.intro st5 (And.intro hn5 (And.intro h3 (And.intro h4 hD5))))
  have HZ:=hid hszb
  clear st5 hn5 h2 h3 h4 h5 hD5 x0 hszb
  gi_wp2
  obtain⟨st5,hn5,h3,h4,hD5⟩:=H.out
  have hszb:=HZ.out
  refine Y9 [wb.heap.size] _ (by simp) (fun D hm=>?_) (fun w' hk'=>⟨.slice sa xs.length sc,?_,_,rfl,?_,?_,?_⟩)
  · obtain rfl:D=wb.heap.size:=by simpa using hm
    exact hD5
  · exact results_tmp (fn:=Tryz.f137) (t:=4) rfl _ _ _
  · refine hk'.row h3 (fun b e e2=>?_)
    have:b=wb.heap.size:=by simpa using e2
    subst this
    exact hn5 (.inr e)
  · have k1:Zb (fun _=>False) w wb:=Zb.of_below hbb
    have k2:Zb (fun _=>False) w W:=k1.trans (st5.keeps.mono (fun b _ e=>.inr (by omega)))
    exact(k2.trans (hk'.mono (fun b _ e=>.inr (by simp at e;omega)))).below
  · intro b e
    rcases st5.gains b (.inr e) with e1|e1
    · omega
    · omega
 case stop =>
  rintro O5 pre W hpre st5 hn5 h hD5
  exact h.elim
theorem Zfo {gf:Nat} {lb:Array Value} (eg:∀ args w,(callFunc gf args).run Tryz.prog w=.ok (.enter gf args) w) {xs:List Nat} (hlen:xs.length < lots) {w:World}
 (hseq:∀ (w1:World) (O:Nat→Prop),Below w.heap.size w w1→(∀ k,O k→w.heap.size≤k)→Jv Tryz.prog gf lb xs w1 O) :
 Calls Tryz.prog 89 #[.func (.func gf) #[] lb] w fun e w'=>∃ a c,e=.returned (.slice a xs.length c)∧w'.ownsRow 0 3 1 (.slice a xs.length c) xs.length (Zg xs)∧Below w.heap.size w w'∧(∀ b,(Value.slice a xs.length c).ownBlock=some b→w.heap.size≤b):=by
 have C:=hid (Ze9 eg hlen hseq)
 clear hseq eg
 go_enter Tryz.func89,Tryz.ntmps89
 go_wp2_with (go_at_call 137;refine C.out.mono ?_;rintro e w1 ⟨v,rfl,h1,h2,h3⟩;obtain⟨sa,sc,rfl⟩:=ZaZ h1)
 go_ret
 exact⟨_,_,rfl,h1,h2,h3⟩
end
end Go.Proofs.YtabogkonklplcaaGreatDoor
