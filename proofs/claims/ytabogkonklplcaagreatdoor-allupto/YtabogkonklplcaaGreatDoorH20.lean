import Derived.Test.YtabogkonklplcaaGreatDoorH19
import Derived.Test.YtabogkonklplcaaGreatDoorH18
import Derived.Test.YtabogkonklplcaaGreatDoorH08
import Derived.Laws.IdiomCopy
import Derived.WalkSmall
import Derived.Test.YtabogkonklplcaaGreatDoorH16
import Derived.Test.YtabogkonklplcaaGreatDoorH17
import Derived.Test.YtabogkonklplcaaGreatDoorH11
namespace Go.Proofs.YtabogkonklplcaaGreatDoor
set_option linter.unusedSimpArgs false
set_option linter.unusedVariables false
set_option maxRecDepth 20000
set_option maxHeartbeats 8000000
section
open Go.RowKit
section
variable {w:World} {F:Nat→Prop} {bf:Nat} {s:List Nd}
theorem Zit (hD:PFor w F bf s) (h40:40≤s.length):Calls Tryz.prog 92 #[ptr bf] w (ZV F w bf s (.tuple #[.int .i64 0,ZO 0 7])):=by
 obtain⟨bn,cap,pn,hD⟩:=hD
 have C:=hid (Zcp hD h40 (-1) false ⟨#[]⟩ 0)
 have HD:=hid hD
 clear hD
 go_enter Tryz.func92,Tryz.ntmps92
 go_wp2_with (go_at_call 143;refine C.out.mono ?_;rintro e w1 ⟨rfl,hb⟩)
 go_ret2
 exact⟨rfl,Zb.of_below hb,bn,cap,pn,(HD.out.below hb).wider (fun b h=>.inl h)⟩
theorem Ziu (hD:PFor w F bf s) (h40:s.length < 40):Calls Tryz.prog 92 #[ptr bf] w (ZV F w bf (s++[Z5]) (.tuple #[.int .i64 s.length,.nilIface])):=by
 obtain⟨bn,cap,pn,hD⟩:=hD
 have C:=hid (Zcq hD h40 Z5 rfl 0)
 clear hD
 go_enter Tryz.func92,Tryz.ntmps92
 go_wp2_with (go_at_call 143;refine C.out.mono ?_;rintro e w1 ⟨rfl,hk,hf⟩)
 go_ret2
 exact⟨rfl,hk,hf⟩
theorem Zco (hD:PFor w F bf s) (h40:40≤s.length) (t:ByteArray) (q:Int):Calls Tryz.prog 103 #[ptr bf,.string t,.int .i64 q] w fun e w'=>e=.returned (.tuple #[.int .i64 0,ZO q 7])∧Below w.heap.size w w':=by
 obtain⟨bn,cap,pn,hD⟩:=hD
 have C:=hid (Zcp hD h40 (-1) true t q)
 clear hD
 go_enter Tryz.func103,Tryz.ntmps103
 go_wp2_with (go_at_call 143;refine C.out.mono ?_;rintro e w1 ⟨rfl,hb⟩)
 go_ret2
 exact⟨rfl,hb⟩
theorem Zbi (hD:PFor w F bf s) (h40:s.length < 40) (l:List ByteArray) (q:Int):Calls Tryz.prog 103 #[ptr bf,.string (catB l),.int .i64 q] w (ZV F w bf (s++[⟨true,l,[],-1⟩]) (.tuple #[.int .i64 s.length,.nilIface])):=by
 obtain⟨bn,cap,pn,hD⟩:=hD
 have C:=hid (Zcq hD h40 ⟨true,l,[],-1⟩ rfl q)
 clear hD
 go_enter Tryz.func103,Tryz.ntmps103
 go_wp2_with (go_at_call 143;refine C.out.mono ?_;rintro e w1 ⟨rfl,hk,hf⟩)
 go_ret2
 exact⟨rfl,hk,hf⟩
theorem ZcJ (t:ByteArray) (w:World) (ht:t.size < lots):Calls Tryz.prog 145 #[.string t] w fun e w'=>e=.returned (.string t)∧Below w.heap.size w w':=by
 have C:=hid (Tryz.stringslite_Clone t w (by unfold lots at ht;omega))
 clear ht
 go_enter Tryz.func145,Tryz.ntmps145
 go_wp2_with (go_at_call 172;refine C.out.mono ?_;rintro e w1 ⟨rfl,hb⟩)
 go_ret
 exact⟨rfl,hb⟩
def Zck (F:Nat→Prop) (w:World) (bf:Nat) (s:List Nd) (e:Ending) (w':World):Prop:=∃ n:Int,ZV F w bf s (.tuple #[.int .i64 0,.iface 145 (.agg #[.int .i64 0,Jb n])]) e w'
theorem ttext_no (hD:PFor w F bf s) (hT:Tabs w) (t:ByteArray) (ht:t.size < lots) (h:∀ l,¬ Takes t l):Calls Tryz.prog 93 #[ptr bf,.string t] w (Zck F w bf s):=by
 have C:=hid (XK 30 (by decide) t w ht hT)
 have HD:=hid hD
 have HN:=hid h
 clear hD hT ht h
 go_enter Tryz.func93,Tryz.ntmps93
 go_wp2_with (go_at_call 144;refine C.out.mono ?_;rintro e w1 ⟨hb,⟨l,hl,_⟩|⟨_,n,rfl⟩⟩;(first|exact absurd hl (HN.out l)|skip))
 go_ret2
 exact⟨n,rfl,Zb.of_below hb,(HD.out.below hb).wider (fun b h=>.inl h)⟩
theorem ZiO (hD:PFor w F bf s) (hT:Tabs w) (t:ByteArray) (ht:t.size < lots) (l:List ByteArray) (h:Takes t l) (h40:40≤s.length):Calls Tryz.prog 93 #[ptr bf,.string t] w (ZV F w bf s (.tuple #[.int .i64 0,ZO 0 7])):=by
 have C:=hid (XK 30 (by decide) t w ht hT)
 have CL:=hid (fun w1=>ZcJ t w1 ht)
 have HD:=hid hD
 have HN:=hid h
 have H4:=hid h40
 clear hD hT ht h h40
 go_enter Tryz.func93,Tryz.ntmps93
 go_wp2_with first
  | (go_at_call 144;refine C.out.mono ?_;rintro e w1 ⟨hb,⟨l',hl,rfl⟩|⟨hn,_⟩⟩ <;> (first|exact absurd HN.out (hn l)|skip))
  | (go_at_call 145;refine(CL.out _).mono ?_;rintro e w2 ⟨rfl,hb2⟩
     have hB:=hid (hb.trans (hb2.mono hb.size))
     have D2:=hid (HD.out.below hB.out)
     clear hb hb2)
  | (go_at_call 103;refine(Zco D2.out H4.out t 0).mono ?_;rintro e w3 ⟨rfl,hb3⟩)
 go_ret2
 have hb4:=hB.out.trans (hb3.mono hB.out.size)
 exact⟨rfl,Zb.of_below hb4,(HD.out.below hb4).wider (fun b h=>.inl h)⟩
theorem ZiP (hD:PFor w F bf s) (hT:Tabs w) (t:ByteArray) (ht:t.size < lots) (l:List ByteArray) (h:Takes t l) (h40:s.length < 40):Calls Tryz.prog 93 #[ptr bf,.string t] w (ZV F w bf (s++[⟨true,l,[],-1⟩]) (.tuple #[.int .i64 s.length,.nilIface])):=by
 have C:=hid (XK 30 (by decide) t w ht hT)
 have CL:=hid (fun w1=>ZcJ t w1 ht)
 have HD:=hid hD
 have HN:=hid h
 have H4:=hid h40
 have HC:=hid (JF t.size t l (Nat.le_refl _) h.1)
 clear hD hT ht h h40
 go_enter Tryz.func93,Tryz.ntmps93
 go_wp2_with first
  | (go_at_call 144;refine C.out.mono ?_;rintro e w1 ⟨hb,⟨l',hl,rfl⟩|⟨hn,_⟩⟩ <;> (first|exact absurd HN.out (hn l)|skip))
  | (go_at_call 145;refine(CL.out _).mono ?_;rintro e w2 ⟨rfl,hb2⟩
     have hB:=hid (hb.trans (hb2.mono hb.size))
     have D2:=hid (HD.out.below hB.out)
     clear hb hb2)
  | (go_at_call 103;have A1:=Zbi D2.out H4.out l 0;rw[HC.out] at A1;refine A1.mono ?_;clear A1;rintro e w3 ⟨rfl,hk3,hf3⟩)
 go_ret2
 refine⟨rfl,(Zb.of_below hB.out).trans (hk3.mono (fun k _ h=>.inl h)),hf3.wider (fun b h=>?_)⟩
 rcases h with h|h
 · exact .inl h
 · exact .inr (Nat.le_trans hB.out.size h)
end
theorem ZgI {w:World} {F:Nat→Prop} {bx:Nat} {s s':List Nd} {rs:List Sp} (hg:GG w) (hP:Zv w F bx ⟨s,rs⟩) (t:ByteArray)
 (hT:∀ (F':Nat→Prop) (bf:Nat),PFor w F' bf s→Calls Tryz.prog 93 #[ptr bf,.string t] w (Zck F' w bf s')) :
 Calls Tryz.prog 53 #[ptr bx,.string t] w (ZY F w bx ⟨s',rs⟩ (.tuple #[.int .i64 0,errV 0 6])):=by
 obtain⟨bf,bl,sv,hD⟩:=hP
 have C:=hid (hT _ _ hD.nodes)
 have c0:w.cell? ⟨bx,0,none⟩=some (ptr bf):=Za hD.doc 0
 have AF:=hid (fun w1 w2=>Xc (w1:=w1) (w2:=w2) (s':=s') hg hD)
 have AG:=hid (fun w1=>Xs (w1:=w1) (F:=F) (bx:=bx) (bl:=bl) (sv:=sv) hg)
 clear hD hT hg
 go_enter Tryz.func53,Tryz.ntmps53
 go_wp2_with first
  | (go_at_call 93;refine C.out.mono ?_;rintro e w1 ⟨n,rfl,hk,hf⟩;have E1:=hid (ZcQ 0 n w1 (AG.out w1 hk));have A1:=hid (fun w2=>AF.out w1 w2 hk hf);clear hk hf)
  | (go_at_call 46;refine E1.out.mono ?_;rintro e w2 ⟨rfl,hb⟩)
 go_ret2
 exact⟨rfl,(A1.out _ hb).1,_,_,_,(A1.out _ hb).2⟩
theorem RDoc.after {w w':World} {F:Nat→Prop} {bd:Nat} {s:List Nd} (h:RDoc w F bd s []) (hb:Below w.heap.size w w'):RDoc w' (grow F w) bd s []:=by
 obtain⟨bn,cap,rn,rv,h⟩:=h
 exact⟨bn,cap,rn,rv,(h.below hb).wider (fun b h=>.inl h)⟩
end
section
open Go.RowKit
theorem Xu {F:Nat→Prop} {a:World} (g:Nat):∀ (vs:List Value) (o:Nat) (w:World),Zb F a w→F g→Zb F a (w.setCells g o vs)
 | [],_,_,h,_=>h
 | v::r,o,w,h,hg=>Xu g r (o+1) _ (h.setCell (p:=⟨g,o,none⟩) (.inl hg) v) hg
theorem Xt (g:Nat) (e:TypeId):∀ (vs:List Value) (o:Nat) (w:World) (cur:Array Value),w.heap[g]?=some (.cells cur e (0,0))→o+vs.length≤cur.size →
 ∃ cur':Array Value,(w.setCells g o vs).heap[g]?=some (.cells cur' e (0,0))∧cur'.size=cur.size∧cur'.toList=cur.toList.take o++vs++cur.toList.drop (o+vs.length)
 | [],o,w,cur,h,hs=>⟨cur,h,rfl,by simp⟩
 | v::r,o,w,cur,h,hs=>by
   simp only[List.length_cons] at hs
   obtain⟨cur',h1,h2,h3⟩:=Xt g e r (o+1) (w.setCell ⟨g,o,none⟩ v) _ (heap_setCell_same w g o cur e v h) (by simp;omega)
   refine⟨cur',h1,by simpa using h2,?_⟩
   rw[h3]
   have ho:o<cur.toList.length:=by simp;omega
   simp only[Array.toList_setIfInBounds,List.length_cons]
   rw[List.take_set,List.drop_set_of_lt (by omega),List.take_succ_eq_append_getElem ho,List.set_append_right _ _ (by simp;omega)]
   simp
   have h5:min o cur.size=o:=by omega
   have h6:o+1+r.length=o+(r.length+1):=by omega
   simp[h5,h6]
theorem ZaT {w:World} {v:Value} {ks:List Nat} (h:w.ownsRow 0 3 1 v ks.length (Zg ks)) (hk:ks≠[]) :
 ∃ g cap cur,v=.slice (some ⟨g,0,none⟩) ks.length cap∧w.heap[g]?=some (.cells cur 3 (0,0))∧ks.length≤cap∧cap≤maxLen∧cur.size=cap∧cur.toList.take ks.length=Zg ks ∧
  (∀ j,j<(ks.map Int.ofNat).length→w.cell? ⟨g,0+j,none⟩=some (.int .i64 ((ks.map Int.ofNat).getD j 0)))∧(∀ j,j<ks.length→w.frozen? ⟨g,0+j,none⟩=false):=by
 obtain⟨h1,h2⟩:=h
 rcases h2 with ⟨_,h2⟩|⟨g,cap,cur,hv,hg,hh,hn,hc,hs,ht⟩
 · exact absurd (List.eq_nil_of_length_eq_zero h2) hk
 · simp only[Nat.mul_one] at ht hs
   refine⟨g,cap,cur,hv,hh,hn,hc,hs,ht,?_,fun j hj=>Zd hh _⟩
   intro j hj
   simp at hj
   rw[Za hh]
   have e:cur[0+j]?=(cur.toList.take ks.length)[j]?:=by rw[Nat.zero_add,List.getElem?_take_of_lt hj,Array.getElem?_toList]
   rw[e,ht]
   simp[Zg,hj,List.getD]
section
variable {w:World} {F:Nat→Prop} {bf bn cap:Nat} {pn:List PN} {s:List Nd}
theorem Zh.newRow (h:Zh w F bf bn cap pn s) {w':World} {i g:Nat} {r:PN} {x:Nd} (hr:pn[i]?=some r) (hx:s[i]?=some x) (hg:r.kv.ownBlock=some g) (hk:Zb (fun b=>b=g) w w') {ks:List Nat}
 (hrow:w'.ownsRow 0 3 1 r.kv ks.length (Zg ks)):Zh w' F bf bn cap pn (s.set i { x with ks:=ks }):=by
 have ho:=h.ok i r x hr hx
 have ha:=ho.apart g hg
 have hi':=(List.getElem?_eq_some_iff.1 hx).1
 refine⟨?_,hk.row h.nodes (fun b e e2=>by cases e;exact ha.2.2 e2.symm),h.Ff,h.Fn,h.ne,by simpa using h.len,?_,h.sep⟩
 · rw[hk.block bf (Zc h.forest) (fun e=>ha.2.1 e.symm)];exact h.forest
 · intro k r1 x1 h1 h2
   rw[List.getElem?_set] at h2
   by_cases hik:i=k
   · subst hik
     rw[if_pos rfl,if_pos hi'] at h2
     cases h2
     rw[hr] at h1
     cases h1
     exact⟨ho.t,ho.p,ho.ch,hrow,ho.apart⟩
   · rw[if_neg hik] at h2
     have o:=h.ok k r1 x1 h1 h2
     refine o.keeps hk (fun b e e2=>?_)
     subst e2
     exact h.sep i k r r1 hik hr h1 _ hg e
end
end
section
open Go.RowKit
theorem Zfn {W:World} {F:Nat→Prop} {bf bn cap:Nat} {pn:List PN} {s:List Nd} (wf:WF s) {h:Nat→Nat} {B:Nat} (u:Up s h B) (hD:Zh W F bf bn cap pn s) (k n:Nat) (hn:n < s.length) (hk:h n < k) :
 Calls Tryz.prog 89 #[.func (.func 138) #[] #[ptr (W.heap.size+1),ptr W.heap.size]] ((W.alloc (.cells #[ptr bf] 91)).alloc (.cells #[.int .i64 (n:Int)] 3)) fun e w' =>
  ∃ a c,e=.returned (.slice a (allF s k n).length c)∧Below W.heap.size W w'∧w'.ownsRow 0 3 1 (.slice a (allF s k n).length c) (allF s k n).length (Zg (allF s k n))∧(∀ b,(Value.slice a (allF s k n).length c).ownBlock=some b→W.heap.size≤b):=by
 have hl:=Yr wf k n hn
 have hN:=hD.narrow
 have hlt:=hD.lt
 obtain⟨wb,hwb⟩:∃ wb,(W.alloc (.cells #[ptr bf] 91)).alloc (.cells #[.int .i64 (n:Int)] 3)=wb:=⟨_,rfl⟩
 have hszb:wb.heap.size=W.heap.size+2:=by rw[← hwb];simp
 have hbb:Below W.heap.size W wb:=by rw[← hwb];exact((Below.refl _ W).alloc (Nat.le_refl _) _).alloc (by simp) _
 have x1:wb.heap[W.heap.size+1]?=some (.cells #[.int .i64 (n:Int)] 3 (0,0)):=by
  have:=heap_alloc_new (W.alloc (.cells #[ptr bf] 91)) (.cells #[.int .i64 (n:Int)] 3)
  rw[hwb,World.size_alloc] at this
  exact this
 have x0:wb.heap[W.heap.size]?=some (.cells #[ptr bf] 91 (0,0)):=by
  rw[← hwb,Below.heap_alloc _ _ _ (by simp)]
  exact heap_alloc_new W _
 rw[hwb]
 refine(Zfo (gf:=138) (lb:=#[ptr (W.heap.size+1),ptr W.heap.size]) (enters_of Tryz.func138 (by kernel_rfl) rfl) (xs:=allF s k n) (by unfold lots;omega) (w:=wb)
  (fun w1 O hb hO=>Zad wf u k n hn hk w1 O _ _ ((hN.below hbb).below hb) (fun b hbF=>⟨by have:=hbF.2;have:=hb.size;omega,fun e=>by have:=hO b e;have:=hbF.2;omega⟩)
    ((hb.cell (p:=⟨W.heap.size+1,0,none⟩) (Zc x1)).trans (Za x1 0)) ((hb.cell (p:=⟨W.heap.size,0,none⟩) (Zc x0)).trans (Za x0 0)) (fun e=>by have:=hO _ e;omega) (fun e=>by have:=hO _ e;omega))).mono ?_
 rintro e w' ⟨a,c,rfl,hr,hb,hg⟩
 exact⟨a,c,rfl,hbb.trans (hb.mono (by omega)),hr,fun g e=>by have:=hg g e;omega⟩
end
section
open Go.RowKit
theorem Zef {w0:World} {t e:TypeId} {n:Nat} {v:Value} {xs:List Value} (ht:Tryz.prog.underlying t=some (.slice e)) (he:Tryz.prog.elem t=e) (hs:∀ w,(sizeOf e).run Tryz.prog w=.ok 1 w) (hr:w0.ownsRow 0 e 1 v n xs) (h1:∀ u∈xs,u.oneCell'=true) (k:Nat) (hk:k≤n) (hnil:∀ w,(Instr.slice t (.slice none 0 0) (some (.int .i64 0)) none none).run Tryz.prog w=.ok (.slice none 0 0) w) :
 ∃ a c,(∀ w,(Instr.slice t v (some (.int .i64 (k:Int))) none none).run Tryz.prog w=.ok (.slice a (n - k) c) w)∧∀ w:World,w.ownsRow 0 e 1 v n xs→YC w 1 (.slice a (n - k) c) (n - k) (xs.drop k):=by
 rcases ZB hr with ⟨hv,h0⟩|⟨g,cc,hgv⟩
 · subst h0
   have hk0:k=0:=by omega
   subst hk0 hv
   have hx:xs=[]:=List.length_eq_zero_iff.1 (by have:=hr.1;omega)
   subst hx
   exact⟨none,0,hnil,fun w _=>.inl ⟨rfl,rfl,rfl⟩⟩
 · subst hgv
   obtain⟨ad,hsl,hsrc⟩:=Za0 ht he hs hr k hk
   refine⟨some ad,cc - k,hsl,fun w h=>?_⟩
   have hl:=hr.1
   unfold YC
   exact Or.inr ⟨ad,cc - k,rfl,by simp;omega,hsrc w h,fun u hu=>h1 u (List.mem_of_mem_drop hu)⟩
end
end Go.Proofs.YtabogkonklplcaaGreatDoor
