import Derived.Test.YtabogkonklplcaaGreatDoorJ29
import Derived.Test.YtabogkonklplcaaGreatDoorJ24
import Derived.Test.YtabogkonklplcaaGreatDoorJ34
import Derived.Test.YtabogkonklplcaaGreatDoorJ09
namespace Go.Proofs.YtabogkonklplcaaGreatDoor
set_option linter.unusedSimpArgs false
set_option linter.unusedVariables false
set_option maxRecDepth 20000
set_option maxHeartbeats 8000000
section
open Go.RowKit Go.Lib
def TSplit (F:Nat→Prop) (w:World) (bf:Nat) (s':List Nd) (n:Int) (e:Ending) (w':World):Prop:=∃ mv,e=.returned (.tuple #[.int .i64 n,mv,.nilIface])∧Zb F w w'∧PFor w' (grow F w) bf s'
def TSv (f:Mvf) (F:Nat→Prop) (w:World) (bf:Nat) (s':List Nd) (n:Int) (e:Ending) (w':World):Prop:=∃ mv m,e=.returned (.tuple #[.int .i64 n,mv,.nilIface])∧Zb F w w'∧w.heap.size≤m∧m≤w'.heap.size∧PFor w' (fun b=>F b∨(w.heap.size≤b∧b < m)) bf s'∧ZR m w' mv f
theorem TSv.split {f:Mvf} {F:Nat→Prop} {w:World} {bf:Nat} {s':List Nd} {n:Int} {e:Ending} {w':World} (h:TSv f F w bf s' n e w'):TSplit F w bf s' n e w':=by
 obtain⟨mv,m,rfl,hk,h1,h2,hf,hm⟩:=h
 exact⟨mv,rfl,hk,hf.wider (fun b h=>h.elim .inl (fun h=>.inr h.1))⟩
section
variable {w:World} {F:Nat→Prop} {bf:Nat} {s:List Nd}
theorem ZeD (hD:PFor w F bf s) (n o:Int) (u:Value) (hT:Calls Tryz.prog 101 #[ptr bf,.int .i64 n] w fun e w'=>e=.returned (.iface 145 u)∧w'=w) :
 Calls Tryz.prog 63 #[ptr bf,.int .i64 n,.int .i64 o] w (ZV F w bf s (.tuple #[.int .i64 0,.nilFunc,.iface 145 u])):=by
 have HD:=hid hD
 have C:=hid hT
 clear hD hT
 go_enter Tryz.func63,Tryz.ntmps63
 go_wp2_with (go_at_call 101;refine C.out.mono ?_;rintro e w1 ⟨rfl,rfl⟩)
 refine bodyPost_ret (v:=.tuple #[.int .i64 0,.nilFunc,.iface 145 u]) (by simp[results,Tryz.results63,go_sem]) rfl ?_
 exact⟨rfl,Zb.refl _ _,HD.out.wider (fun b h=>.inl h)⟩
theorem ZiJ (hD:PFor w F bf s) (n:Nat) (o:Int) (x:Nd) (hx:s[n]?=some x) (ht:x.t=true) (hch:∀ d∈x.cs,IsCh d) (hl:x.cs.length < lots) (ho:o < 0∨(x.cs.length:Int) < o) :
 Calls Tryz.prog 63 #[ptr bf,.int .i64 n,.int .i64 o] w (ZV F w bf s (.tuple #[.int .i64 0,.nilFunc,.iface 145 (.agg #[.int .i64 n,outV o])])):=by
 have HD:=hid hD
 obtain⟨bn,cap,pn,hD⟩:=hD
 have hi:n<s.length:=(List.getElem?_eq_some_iff.1 hx).1
 have C:=hid (Jc hD n x hx ht)
 have C2:=hid (fun w1=>JQ x.cs hch hl o ho w1)
 have h0:=hD.nodesCell
 obtain⟨r,hr,ho',c0,c1,c2,c3⟩:=hD.look hx
 clear hD c0 c1 c2 hr ho' hx hch
 go_enter Tryz.func63,Tryz.ntmps63
 go_wp2_with first
  | (go_at_call 101;refine C.out.mono ?_;rintro e w1 ⟨rfl,hw1⟩;replace hw1:=hw1.symm;subst hw1)
  | (go_at_call 102;refine(C2.out _).mono ?_;rintro e w2 ⟨rfl,hb2⟩)
 refine bodyPost_ret (v:=.tuple #[.int .i64 0,.nilFunc,.iface 145 (.agg #[.int .i64 n,outV o])]) (by simp[results,Tryz.results63,go_sem]) rfl ?_
 exact⟨rfl,Zb.of_below hb2,(HD.out.below hb2).wider (fun b h=>.inl h)⟩
theorem ZiH (hD:PFor w F bf s) (n k:Nat) (x:Nd) (hx:s[n]?=some x) (ht:x.t=true) (hch:∀ d∈x.cs,IsCh d) (hl:x.cs.length≤30) (ho:k≤x.cs.length) (h40:40≤s.length) :
 Calls Tryz.prog 63 #[ptr bf,.int .i64 n,.int .i64 (k:Int)] w (ZV F w bf s (.tuple #[.int .i64 0,.nilFunc,ZO n 7])):=by
 have HD:=hid hD
 obtain⟨bn,cap,pn,hD⟩:=hD
 have hi:n<s.length:=(List.getElem?_eq_some_iff.1 hx).1
 have C:=hid (Jc hD n x hx ht)
 have C2:=hid (fun w1=>YQ x.cs hch (by unfold lots;omega) k ho w1)
 have h0:=hD.nodesCell
 obtain⟨r,hr,ho',c0,c1,c2,c3⟩:=hD.look hx
 have s1:=(YF x.cs k).2
 have z1:=YO x.cs k
 have z2:=Z3 x.cs hch
 have H4:=hid h40
 obtain⟨p,hp⟩:∃ p,(catB (x.cs.take k)).size=p:=⟨_,rfl⟩
 rw[hp] at C2 s1 z1
 obtain⟨S,hS⟩:∃ S,catB x.cs=S:=⟨_,rfl⟩
 rw[hS] at C2 s1 z1 c3 z2
 have pI:(p:Int)≤S.size:=by omega
 clear hD c0 c1 c2 hr ho' hx hch hp hS h40
 go_enter Tryz.func63,Tryz.ntmps63
 go_wp2_with first
  | (go_at_call 101;refine C.out.mono ?_;rintro e w1 ⟨rfl,hw1⟩;replace hw1:=hw1.symm;subst hw1)
  | (go_at_call 102;refine(C2.out _).mono ?_;rintro e w2 ⟨rfl,hb2⟩)
  | (go_at_call 103;refine(Zco (HD.out.below hb2) H4.out _ _).mono ?_;rintro e w3 ⟨rfl,hb3⟩)
 refine bodyPost_ret (v:=.tuple #[.int .i64 0,.nilFunc,ZO n 7]) (by simp[results,Tryz.results63,go_sem]) rfl ?_
 have hb:=hb2.trans (hb3.mono hb2.size)
 exact⟨rfl,Zb.of_below hb,(HD.out.below hb).wider (fun b h=>.inl h)⟩
theorem ZiK (hD:PFor w F bf s) (n k:Nat) (x:Nd) (hx:s[n]?=some x) (ht:x.t=true) (hch:∀ d∈x.cs,IsCh d) (hl:x.cs.length≤30) (ho:k≤x.cs.length) (h40:s.length < 40) (hp1:x.p = -1) :
 Calls Tryz.prog 63 #[ptr bf,.int .i64 n,.int .i64 (k:Int)] w (TSv (Zl n k ((x.cs.length - k:Nat):Int) 0) F w bf ((s++[(⟨true,x.cs.drop k,[],-1⟩:Nd)]).set n { x with cs:=x.cs.take k }) s.length):=by
 have HD:=hid hD
 obtain⟨bn,cap,pn,hD⟩:=hD
 have hi:n<s.length:=(List.getElem?_eq_some_iff.1 hx).1
 have C:=hid (Jc hD n x hx ht)
 have C2:=hid (fun w1=>YQ x.cs hch (by unfold lots;omega) k ho w1)
 have CC:=hid (fun w1=>Y6 (x.cs.drop k) (fun d hd=>hch d (List.mem_of_mem_drop hd)) (by simp;unfold lots;omega) w1)
 rw[List.length_drop] at CC
 have h0:=hD.nodesCell
 obtain⟨r,hr,ho',c0,c1,c2,c3⟩:=hD.look hx
 have s1:=(YF x.cs k).2
 have s2:=(YF x.cs k).1
 have z1:=YO x.cs k
 have z2:=Z3 x.cs hch
 have H4:=hid h40
 have HX:=hid hx
 have HP:=hid hp1
 obtain⟨p,hp⟩:∃ p,(catB (x.cs.take k)).size=p:=⟨_,rfl⟩
 rw[hp] at C2 s1 s2 z1
 obtain⟨S,hS⟩:∃ S,catB x.cs=S:=⟨_,rfl⟩
 rw[hS] at C2 s1 s2 z1 c3 z2
 have pI:(p:Int)≤S.size:=by omega
 clear hD c0 c1 c2 hr ho' hx hch hp hS h40 hp1
 go_enter Tryz.func63,Tryz.ntmps63
 go_wp2_with first
  | (go_at_call 101;refine C.out.mono ?_;rintro e w1 ⟨rfl,hw1⟩;replace hw1:=hw1.symm;subst hw1)
  | (go_at_call 102;refine(C2.out _).mono ?_;rintro e w2 ⟨rfl,hb2⟩)
  | (go_at_call 103;refine(Zbh (HD.out.below hb2) H4.out (x.cs.drop k) n).mono ?_;rintro e w3 ⟨rfl,hk3,bn3,cap3,pn3,hf3⟩
     have hx3:(s++[(⟨true,x.cs.drop k,[],-1⟩:Nd)])[n]?=some x:=by rw[List.getElem?_append_left hi];exact HX.out
     have g0:=hf3.nodesCell
     rw[List.length_append] at g0
     simp only[List.length_cons,List.length_nil,Nat.zero_add] at g0
     obtain⟨r3,hr3,ho3,e0,e1,e2,e3⟩:=hf3.look hx3
     rw[HP.out] at e0
     obtain⟨gv,g4,gf⟩:=hf3.cellsThere (i:=n) (k:=3) (by rw[List.length_append];omega) (by omega)
     obtain⟨pn4,h4⟩:=hf3.newChars (cs':=x.cs.take k) hx3
     have H5:=hid (And.intro hk3 (And.intro h4 hf3.Fn))
     have hlt3:=hf3.lt
     have hne3:¬ bf=bn3:=hf3.ne
     clear hr3 ho3 e1 e2 hk3 h4 hf3 hx3)
 go_region
 go_wp2_with first
  | (go_at_call 105;refine(CC.out _).mono ?_;rintro e w5 ⟨rfl,hb5⟩)
  | (go_at_call 104;refine(Zd7 _ _ _ _ _ (by omega) (by omega) (by omega) (by omega) (by omega) (by omega)).mono ?_;rintro e w6 ⟨bs,rfl,hb6,hM6⟩
     have H6:=hid hM6
     clear hM6)
 refine bodyPost_ret (v:=.tuple #[.int .i64 s.length,.func (.func 154) #[] bs,.nilIface]) (by simp[results,Tryz.results63,go_sem]) rfl ?_
 obtain⟨hk3,h4,hfn⟩:=H5.out
 have hb:=hb5.trans (hb6.mono hb5.size)
 have hz2:=hb2.size
 have hk:Zb F w w3:=(Zb.of_below hb2).trans (hk3.mono (fun b _ e=>.inl e))
 have hz5:w3.heap.size≤w5.heap.size:=by
  have:=hb5.size
  simp only[World.size_drew,World.size_setCell] at this
  exact this
 have hz3:=hk3.size
 refine⟨_,w5.heap.size,rfl,(hk.setCell (p:=⟨bn3,n*4+3,none⟩) ?_ _).drew.trans (Zb.of_below hb),by omega,hb6.size,⟨bn3,cap3,pn4,(h4.drew.narrow.below hb).wider (fun b h=>?_)⟩,H6.out⟩
 · rcases hfn with e|e
   · exact .inl e
   · exact .inr (by show w.heap.size≤bn3;omega)
 · have h2:b<w3.heap.size:=by
    have:=h.2
    simp only[World.size_drew,World.size_setCell] at this
    exact this
   rcases h.1 with e|e
   · exact .inl e
   · exact .inr ⟨by omega,by omega⟩
end
end
section
open Go.RowKit Go.Lib
section
variable {w:World} {F:Nat→Prop} {bf:Nat} {s:List Nd}
theorem ZiI (hD:PFor w F bf s) (n k:Nat) (x:Nd) (hx:s[n]?=some x) (ht:x.t=true) (hch:∀ d∈x.cs,IsCh d) (hl:x.cs.length≤30) (ho:k≤x.cs.length) (h40:s.length < 40) (j m:Nat) (y:Nd) (hp1:x.p=j) (hy:s[j]?=some y) (hm:y.ks[m]?=some n) (hno:n∉y.ks.take m) (hkb:y.ks.length < lots) (hnj:n≠j) :
 Calls Tryz.prog 63 #[ptr bf,.int .i64 n,.int .i64 (k:Int)] w (TSv (Zp n k s.length (Ze j m 1)) F w bf ((((s++[(⟨true,x.cs.drop k,[],-1⟩:Nd)]).set n { x with cs:=x.cs.take k }).set j { y with ks:=y.ks.take (m+1)++s.length::y.ks.drop (m+1) }).set s.length { (⟨true,x.cs.drop k,[],-1⟩:Nd) with p:=j }) s.length):=by
 obtain⟨sF,hsF⟩:∃ sF,((((s++[(⟨true,x.cs.drop k,[],-1⟩:Nd)]).set n { x with cs:=x.cs.take k }).set j { y with ks:=y.ks.take (m+1)++s.length::y.ks.drop (m+1) }).set s.length { (⟨true,x.cs.drop k,[],-1⟩:Nd) with p:=j })=sF:=⟨_,rfl⟩
 rw[hsF]
 have HS:=hid hsF
 clear hsF
 have HD:=hid hD
 obtain⟨bn,cap,pn,hD⟩:=hD
 have hi:n<s.length:=(List.getElem?_eq_some_iff.1 hx).1
 have C:=hid (Jc hD n x hx ht)
 have C2:=hid (fun w1=>YQ x.cs hch (by unfold lots;omega) k ho w1)
 have CC:=hid (fun w1=>Y6 (x.cs.drop k) (fun d hd=>hch d (List.mem_of_mem_drop hd)) (by simp;unfold lots;omega) w1)
 have h0:=hD.nodesCell
 obtain⟨r,hr,ho',c0,c1,c2,c3⟩:=hD.look hx
 have s1:=(YF x.cs k).2
 have s2:=(YF x.cs k).1
 have z1:=YO x.cs k
 have z2:=Z3 x.cs hch
 have H4:=hid h40
 have HX:=hid hx
 have HP:=hid hp1
 have hjl:j<s.length:=(List.getElem?_eq_some_iff.1 hy).1
 have hml:m<y.ks.length:=(List.getElem?_eq_some_iff.1 hm).1
 have hkb':=hkb
 unfold lots at hkb'
 have HY:=hid (And.intro hy (And.intro hm (And.intro hno hkb)))
 have hneg:((j:Int) == -1)=false:=by simp
 have hm64:(m:Int)+1≤9223372036854775807:=by omega
 obtain⟨p,hp⟩:∃ p,(catB (x.cs.take k)).size=p:=⟨_,rfl⟩
 rw[hp] at C2 s1 s2 z1
 obtain⟨S,hS⟩:∃ S,catB x.cs=S:=⟨_,rfl⟩
 rw[hS] at C2 s1 s2 z1 c3 z2
 have pI:(p:Int)≤S.size:=by omega
 clear hD c0 c1 c2 hr ho' hx hch hp hS h40 hp1 hy hm hno hkb
 go_enter Tryz.func63,Tryz.ntmps63
 go_wp2_with first
  | (go_at_call 101;refine C.out.mono ?_;rintro e w1 ⟨rfl,hw1⟩;replace hw1:=hw1.symm;subst hw1)
  | (go_at_call 102;refine(C2.out _).mono ?_;rintro e w2 ⟨rfl,hb2⟩)
  | (go_at_call 103;refine(Zbh (HD.out.below hb2) H4.out (x.cs.drop k) n).mono ?_;rintro e w3 ⟨rfl,hk3,bn3,cap3,pn3,hf3⟩
     have hx3:(s++[(⟨true,x.cs.drop k,[],-1⟩:Nd)])[n]?=some x:=by rw[List.getElem?_append_left hi];exact HX.out
     have g0:=hf3.nodesCell
     rw[List.length_append] at g0
     simp only[List.length_cons,List.length_nil,Nat.zero_add] at g0
     obtain⟨r3,hr3,ho3,e0,e1,e2,e3⟩:=hf3.look hx3
     rw[HP.out] at e0
     obtain⟨gv,g4,gf⟩:=hf3.cellsThere (i:=n) (k:=3) (by rw[List.length_append];omega) (by omega)
     obtain⟨pn4,h4⟩:=hf3.newChars (cs':=x.cs.take k) hx3
     have hx4:((s++[(⟨true,x.cs.drop k,[],-1⟩:Nd)]).set n { x with cs:=x.cs.take k })[n]?=some { x with cs:=x.cs.take k }:=by rw[List.getElem?_set_self (by rw[List.length_append];omega)]
     have hy4:((s++[(⟨true,x.cs.drop k,[],-1⟩:Nd)]).set n { x with cs:=x.cs.take k })[j]?=some y:=by rw[List.getElem?_set_ne hnj,List.getElem?_append_left hjl];exact HY.out.1
     have hz4:((s++[(⟨true,x.cs.drop k,[],-1⟩:Nd)]).set n { x with cs:=x.cs.take k })[s.length]?=some (⟨true,x.cs.drop k,[],-1⟩:Nd):=by rw[List.getElem?_set_ne (by omega),List.getElem?_append_right (Nat.le_refl _)];simp
     have HC:=hid (And.intro hx4 (And.intro hy4 hz4))
     have H5:=hid (And.intro hk3 (And.intro h4 hf3.Fn))
     clear hx4 hy4 hz4
     have hlt3:=hf3.lt
     have hne3:¬ bf=bn3:=hf3.ne
     clear hr3 ho3 e1 e2 hk3 h4 hf3 hx3)
 go_region
 have C5:=hid (Zcd H5.out.2.1.drew n j m _ y HC.out.1 HP.out HC.out.2.1 HY.out.2.1 HY.out.2.2.1 (by rw[List.length_set,List.length_append];simp;unfold lots;have:=H4.out;omega) HY.out.2.2.2)
 have C6:=hid (fun q=>Zcv (H5.out.2.1.drewN q) j s.length (m+1) y _ HC.out.2.1 HC.out.2.2 (by omega) (by omega) (by rw[List.length_set,List.length_append];simp;unfold lots;have:=H4.out;omega) HY.out.2.2.2)
 rw[show (((m+1:Nat)):Int)=(m:Int)+1 from by omega] at C6
 go_wp2_with first
  | (go_at_call 106;refine C5.out.mono ?_;rintro e w5 ⟨rfl,q,rfl⟩)
  | (go_at_call 107;refine(C6.out (1+q)).mono ?_;rintro e w6 ⟨rfl,hk6,hf6⟩)
  | (go_at_call 109;refine(ZaX _ _ _ (by decide) (by decide) _).mono ?_;rintro e w7 ⟨x7,y7,z7,rfl,hb7,hS7,l71,l72,l73⟩
     have H7:=hid (And.intro hS7 (And.intro l71 (And.intro l72 l73)))
     clear hS7 l71 l72 l73)
  | (go_at_call 108;refine(carry_at _ _ _ _ _ _ _ _ _ w6.heap.size _ H7.out.1 H7.out.2 hb7.size (by omega) (by omega)).mono ?_;rintro e w8 ⟨bs8,rfl,hb8,hM8⟩
     have H8:=hid hM8
     clear hM8)
 refine bodyPost_ret (v:=.tuple #[.int .i64 s.length,.func (.func 157) #[] bs8,.nilIface]) (by simp[results,Tryz.results63,go_sem]) rfl ?_
 obtain⟨hk3,h4,hfn⟩:=H5.out
 have hb:=hb7.trans (hb8.mono hb7.size)
 have hz2:=hb2.size
 have hz3:=hk3.size
 have hk:Zb F w w3:=(Zb.of_below hb2).trans (hk3.mono (fun b _ e=>.inl e))
 have hk5:Zb F w ((w3.setCell ⟨bn3,n*4+3,none⟩ (.string (catB (x.cs.take k)))).drewN (1+q)):=by
  have h6:=hk.setCell (p:=⟨bn3,n*4+3,none⟩) (by rcases hfn with e|e;exact .inl e;exact .inr (by show w.heap.size≤bn3;omega)) (.string (catB (x.cs.take k)))
  exact⟨h6.os,h6.tape,h6.output,h6.size,h6.block⟩
 have hk7:Zb F w w6:=hk5.trans (hk6.mono (fun b _ e=>by rcases e with e|e;exact .inl e;exact .inr (by omega)))
 rw[HS.out] at hf6
 obtain⟨bn6,cap6,pn6,hf6⟩:=hf6
 have hz6:=hk6.size
 have hsz:((w3.setCell ⟨bn3,n*4+3,none⟩ (.string (catB (x.cs.take k)))).drewN (1+q)).heap.size=w3.heap.size:=by show (w3.setCell _ _).heap.size=_;rw[World.size_setCell]
 refine⟨_,w6.heap.size,rfl,hk7.trans (Zb.of_below hb),by omega,Nat.le_trans hb7.size hb8.size,⟨bn6,cap6,pn6,(hf6.narrow.below hb).wider (fun b h=>?_)⟩,H8.out⟩
 have hb6:=h.2
 rcases h.1 with (e|e)|e
 · exact .inl e
 · exact .inr ⟨by omega,hb6⟩
 · exact .inr ⟨by omega,hb6⟩
end
end
section
open Go.RowKit Go.Lib
theorem ZaJ {w:World} {F:Nat→Prop} {bx:Nat} {s s':List Nd} {rs:List Sp} (hg:GG w) (hP:Zv w F bx ⟨s,rs⟩) {t:TypeId} {u:Value} {a y:Int} (A B:Int) (hE:Z2 (.iface t u) a y)
 (hT:∀ (F':Nat→Prop) (bf:Nat),PFor w F' bf s→Calls Tryz.prog 63 #[ptr bf,.int .i64 A,.int .i64 B] w (ZV F' w bf s' (.tuple #[.int .i64 0,.nilFunc,.iface t u]))) :
 Calls Tryz.prog 30 #[ptr bx,.int .i64 A,.int .i64 B] w (ZY F w bx ⟨s',rs⟩ (.tuple #[.int .i64 0,errV a y])):=by
 obtain⟨bf,bl,sv,hD⟩:=hP
 have C:=hid (hT _ _ hD.nodes)
 have c0:w.cell? ⟨bx,0,none⟩=some (ptr bf):=Za hD.doc 0
 have AF:=hid (fun w1 w2=>Xc (w1:=w1) (w2:=w2) (s':=s') hg hD)
 have AG:=hid (fun w1=>Xt (w1:=w1) (F:=F) (bx:=bx) (bl:=bl) (sv:=sv) hg)
 have E:=hid (fun w1 (h1:Glob w1)=>ZaI h1 bx .nilFunc hE)
 clear hD hT hg hE
 go_enter Tryz.func30,Tryz.ntmps30
 go_wp2_with first
  | (go_at_call 63;refine C.out.mono ?_;rintro e w1 ⟨rfl,hk,hf⟩;have E1:=hid (E.out w1 (AG.out w1 hk));have A1:=hid (fun w2=>AF.out w1 w2 hk hf);clear hk hf)
  | (go_at_call 64;refine E1.out.mono ?_;rintro e w2 ⟨rfl,hb⟩)
 go_ret2
 exact⟨rfl,(A1.out _ hb).1,_,_,_,(A1.out _ hb).2⟩
theorem wf_half {s:List Nd} (wf:WF s) (h40:s.length < 40) {n k:Nat} {x:Nd} (hx:s[n]?=some x) (ht:x.t=true):WF ((s++[(⟨true,x.cs.drop k,[],-1⟩:Nd)]).set n { x with cs:=x.cs.take k }):=by
 have hch:=wf.chars n x hx
 have hn:=(List.getElem?_eq_some_iff.1 hx).1
 have w1:=Jr wf h40 ⟨true,x.cs.drop k,[],-1⟩ rfl rfl (fun h=>by cases h) ⟨by simp;omega,fun c hc=>hch.2 c (List.mem_of_mem_drop hc)⟩
 exact Zaa w1 (by rw[List.getElem?_append_left hn];exact hx) ht ⟨by simp;omega,fun c hc=>hch.2 c (List.mem_of_mem_take hc)⟩
theorem Zh5 {s:List Nd} {n j:Nat} {x y:Nd} {X Y a b:Nd} (hn:n < s.length) (hj:j < s.length) (hnj:n≠j) :
 (((s++[a]).set n X).set j Y).set s.length b=((s++[b]).set j Y).set n X:=by
 have e1:(s++[a]).set n X=s.set n X++[a]:=List.set_append_left _ _ hn
 have e2:(s.set n X++[a]).set j Y=(s.set n X).set j Y++[a]:=List.set_append_left _ _ (by simpa using hj)
 have e3:((s.set n X).set j Y++[a]).set s.length b=(s.set n X).set j Y++[b]:=by
  rw[List.set_append_right _ _ (by simp)];simp
 have e4:(s++[b]).set j Y=s.set j Y++[b]:=List.set_append_left _ _ hj
 have e5:(s.set j Y++[b]).set n X=(s.set j Y).set n X++[b]:=List.set_append_left _ _ (by simpa using hn)
 rw[e1,e2,e3,e4,e5,List.set_comm _ _ hnj]
end
section
open Go.RowKit
section
variable {w:World} {F:Nat→Prop} {bf bn cap:Nat} {pn:List PN} {s:List Nd}
theorem may_root (hD:Zh w F bf bn cap pn s) (i:Nat) (C:Int) (x:Nd) (hx:s[i]?=some x) (ht:x.t=false):Calls Tryz.prog 146 #[ptr bf,.int .i64 i,.int .i64 0,.int .i64 C] w fun e w'=>e=.returned (ZO 0 4)∧Below w.heap.size w w':=by
 have hi:i<s.length:=(List.getElem?_eq_some_iff.1 hx).1
 have C1:=hid (Z4 hD i (ZC (by omega)))
 have C2:=hid (Z4 hD 0 (ZC (by omega)))
 have h0:=hD.nodesCell
 obtain⟨r,hr,ho,c0,c1,c2,c3⟩:=hD.look hx
 rw[ht] at c1
 clear hD hx ho hr c0 c2 c3
 go_enter Tryz.func146,Tryz.ntmps146
 go_wp2_with (go_at_call 87;(first|(refine C1.out.mono ?_;clear C1;rintro e w1 ⟨rfl,hw1⟩;subst hw1)|(refine C2.out.mono ?_;clear C2;rintro e w1 ⟨rfl,hw1⟩;subst hw1)))
 go_ret
 exact⟨rfl,Below.refl _ _⟩
theorem may_has (hD:Zh w F bf bn cap pn s) (i j:Nat) (C:Int) (x y:Nd) (hx:s[i]?=some x) (hy:s[j]?=some y) (ht:x.t=false) (hj:0 < j) (hp:0≤y.p):Calls Tryz.prog 146 #[ptr bf,.int .i64 i,.int .i64 j,.int .i64 C] w fun e w'=>e=.returned (ZO j 4)∧Below w.heap.size w w':=by
 have hi:i<s.length:=(List.getElem?_eq_some_iff.1 hx).1
 have hjl:j<s.length:=(List.getElem?_eq_some_iff.1 hy).1
 have C1:=hid (Z4 hD i (ZC (by omega)))
 have C2:=hid (Z4 hD j (ZC (by omega)))
 have h0:=hD.nodesCell
 obtain⟨r,hr,ho,c0,c1,c2,c3⟩:=hD.look hx
 obtain⟨r2,hr2,ho2,d0,d1,d2,d3⟩:=hD.look hy
 rw[ht] at c1
 have hj0:((j:Int) == 0)=false:=by simp;omega
 have hp0:(y.p != -1)=true:=by simp;omega
 clear hD hx ho hr c0 c2 c3 hr2 ho2 d1 d2 d3 hy
 go_enter Tryz.func146,Tryz.ntmps146
 go_wp2_with (go_at_call 87;(first|(refine C1.out.mono ?_;clear C1;rintro e w1 ⟨rfl,hw1⟩;subst hw1)|(refine C2.out.mono ?_;clear C2;rintro e w1 ⟨rfl,hw1⟩;subst hw1)))
 go_ret
 exact⟨rfl,Below.refl _ _⟩
theorem Zgr (wf:WF s) {h:Nat→Nat} {B:Nat} (u:Up s h B) (hD:Zh w F bf bn cap pn s) (i j k:Nat) (C:Int) (x y:Nd) (hI:YI s i j x y) (hk:h j < k) (hm:i∈allF s k j):Calls Tryz.prog 146 #[ptr bf,.int .i64 i,.int .i64 j,.int .i64 C] w fun e w'=>e=.returned (ZO j 5)∧Below w.heap.size w w':=by
 obtain⟨hx,hy,ht,hj,hp⟩:=hI
 have hi:i<s.length:=(List.getElem?_eq_some_iff.1 hx).1
 have hjl:j<s.length:=(List.getElem?_eq_some_iff.1 hy).1
 have C1:=hid (Z4 hD i (ZC (by omega)))
 have C2:=hid (Z4 hD j (ZC (by omega)))
 have C3:=hid (JU wf u hD k j i hjl hk)
 rw[decide_eq_true hm] at C3
 have h0:=hD.nodesCell
 obtain⟨r,hr,ho,c0,c1,c2,c3⟩:=hD.look hx
 obtain⟨r2,hr2,ho2,d0,d1,d2,d3⟩:=hD.look hy
 have hp1:y.p = -1:=by rcases wf.par j y hy with e|⟨q,_,e,_⟩ <;> omega
 rw[ht] at c1
 rw[hp1] at d0
 have hj0:((j:Int) == 0)=false:=by simp;omega
 clear hD hx ho hr c0 c2 c3 hr2 ho2 d1 d2 d3 hy hm hk u wf hp1 hp
 go_enter Tryz.func146,Tryz.ntmps146
 go_wp2_with (first
  | (go_at_call 87;(first|(refine C1.out.mono ?_;clear C1;rintro e w1 ⟨rfl,hw1⟩;subst hw1)|(refine C2.out.mono ?_;clear C2;rintro e w1 ⟨rfl,hw1⟩;subst hw1)))
  | (go_at_call 173;refine C3.out.mono ?_;rintro e w1 ⟨rfl,hb⟩))
 go_ret
 exact⟨rfl,hb⟩
theorem Zgs (wf:WF s) {h:Nat→Nat} {B:Nat} (u:Up s h B) (hD:Zh w F bf bn cap pn s) (i j k:Nat) (C:Int) (x y:Nd) (hI:YI s i j x y) (hk:h j < k) (hm:i∉allF s k j) (hC:C < 0∨(x.ks.length:Int) < C):Calls Tryz.prog 146 #[ptr bf,.int .i64 i,.int .i64 j,.int .i64 C] w fun e w'=>e=.returned (ZO i 3)∧Below w.heap.size w w':=by
 obtain⟨hx,hy,ht,hj,hp⟩:=hI
 have hi:i<s.length:=(List.getElem?_eq_some_iff.1 hx).1
 have hjl:j<s.length:=(List.getElem?_eq_some_iff.1 hy).1
 have C1:=hid (Z4 hD i (ZC (by omega)))
 have C2:=hid (Z4 hD j (ZC (by omega)))
 have C3:=hid (JU wf u hD k j i hjl hk)
 rw[decide_eq_false hm] at C3
 have h0:=hD.nodesCell
 obtain⟨r,hr,ho,c0,c1,c2,c3⟩:=hD.look hx
 obtain⟨r2,hr2,ho2,d0,d1,d2,d3⟩:=hD.look hy
 have hp1:y.p = -1:=by rcases wf.par j y hy with e|⟨q,_,e,_⟩ <;> omega
 rw[ht] at c1
 rw[hp1] at d0
 have hlt:=hD.lt
 obtain⟨sa,sc,hkv⟩:∃ a c,r.kv=.slice a x.ks.length c:=by
  rcases ZB ho.kids with ⟨h1,h2⟩|⟨g,c,h1⟩
  · exact⟨none,0,by rw[h1,h2]⟩
  · exact⟨_,_,h1⟩
 rw[hkv] at c2
 have hj0:((j:Int) == 0)=false:=by simp;omega
 clear hD hx ho hr c0 c3 hr2 ho2 d1 d2 d3 hy hm hk u wf hp1 hp hkv
 by_cases hneg:C<0
 · clear hC c2
   go_enter Tryz.func146,Tryz.ntmps146
   go_wp2_with (first
    | (go_at_call 87;(first|(refine C1.out.mono ?_;clear C1;rintro e w1 ⟨rfl,hw1⟩;subst hw1)|(refine C2.out.mono ?_;clear C2;rintro e w1 ⟨rfl,hw1⟩;subst hw1)))
    | (go_at_call 173;refine C3.out.mono ?_;rintro e w1 ⟨rfl,hb⟩))
   go_ret
   exact⟨rfl,hb⟩
 · have hC2:(x.ks.length:Int)<C:=by omega
   have hneg2:decide (C<0)=false:=decide_eq_false hneg
   clear hC
   go_enter Tryz.func146,Tryz.ntmps146
   go_wp2_with (first
    | (go_at_call 87;(first|(refine C1.out.mono ?_;clear C1;rintro e w1 ⟨rfl,hw1⟩;subst hw1)|(refine C2.out.mono ?_;clear C2;rintro e w1 ⟨rfl,hw1⟩;subst hw1)))
    | (go_at_call 173;refine C3.out.mono ?_;rintro e w1 ⟨rfl,hb⟩
       have e0:=(hb.cell (p:=⟨bf,0,none⟩) hlt.1).trans h0
       have e2:=(hb.cell (p:=⟨bn,i*4+2,none⟩) hlt.2).trans c2))
   go_ret
   exact⟨rfl,hb⟩
theorem may_ok (wf:WF s) {h:Nat→Nat} {B:Nat} (u:Up s h B) (hD:Zh w F bf bn cap pn s) (i j k c:Nat) (x y:Nd) (hI:YI s i j x y) (hk:h j < k) (hm:i∉allF s k j) (hC:c≤x.ks.length):Calls Tryz.prog 146 #[ptr bf,.int .i64 i,.int .i64 j,.int .i64 c] w fun e w'=>e=.returned .nilIface∧Below w.heap.size w w':=by
 obtain⟨hx,hy,ht,hj,hp⟩:=hI
 have hi:i<s.length:=(List.getElem?_eq_some_iff.1 hx).1
 have hjl:j<s.length:=(List.getElem?_eq_some_iff.1 hy).1
 have C1:=hid (Z4 hD i (ZC (by omega)))
 have C2:=hid (Z4 hD j (ZC (by omega)))
 have C3:=hid (JU wf u hD k j i hjl hk)
 rw[decide_eq_false hm] at C3
 have h0:=hD.nodesCell
 obtain⟨r,hr,ho,c0,c1,c2,c3⟩:=hD.look hx
 obtain⟨r2,hr2,ho2,d0,d1,d2,d3⟩:=hD.look hy
 have hp1:y.p = -1:=by rcases wf.par j y hy with e|⟨q,_,e,_⟩ <;> omega
 rw[ht] at c1
 rw[hp1] at d0
 have hlt:=hD.lt
 obtain⟨sa,sc,hkv⟩:∃ a c,r.kv=.slice a x.ks.length c:=by
  rcases ZB ho.kids with ⟨h1,h2⟩|⟨g,c,h1⟩
  · exact⟨none,0,by rw[h1,h2]⟩
  · exact⟨_,_,h1⟩
 rw[hkv] at c2
 have hj0:((j:Int) == 0)=false:=by simp;omega
 have hneg:decide ((c:Int)<0)=false:=decide_eq_false (by omega)
 have hC2:¬ (x.ks.length:Int)<(c:Int):=by omega
 have hC3:decide ((x.ks.length:Int)<(c:Int))=false:=decide_eq_false hC2
 clear hD hx ho hr c0 c3 hr2 ho2 d1 d2 d3 hy hm hk u wf hp1 hp hkv
 go_enter Tryz.func146,Tryz.ntmps146
 go_wp2_with (first
  | (go_at_call 87;(first|(refine C1.out.mono ?_;clear C1;rintro e w1 ⟨rfl,hw1⟩;subst hw1)|(refine C2.out.mono ?_;clear C2;rintro e w1 ⟨rfl,hw1⟩;subst hw1)))
  | (go_at_call 173;refine C3.out.mono ?_;rintro e w1 ⟨rfl,hb⟩
     have e0:=(hb.cell (p:=⟨bf,0,none⟩) hlt.1).trans h0
     have e2:=(hb.cell (p:=⟨bn,i*4+2,none⟩) hlt.2).trans c2))
 go_ret
 exact⟨rfl,hb⟩
end
section
variable {w:World} {F:Nat→Prop} {bf:Nat} {s:List Nd}
theorem Ziz (hD:PFor w F bf s) (A B C n y:Int) (hM:Calls Tryz.prog 146 #[ptr bf,.int .i64 A,.int .i64 B,.int .i64 C] w fun e w'=>e=.returned (ZO n y)∧Below w.heap.size w w'):Calls Tryz.prog 94 #[ptr bf,.int .i64 A,.int .i64 B,.int .i64 C] w (ZV F w bf s (.tuple #[.nilFunc,ZO n y])):=by
 have HD:=hid hD
 have C1:=hid hM
 clear hD hM
 go_enter Tryz.func94,Tryz.ntmps94
 go_wp2_with (go_at_call 146;refine C1.out.mono ?_;rintro e w1 ⟨rfl,hb⟩)
 go_ret2
 exact⟨rfl,Zb.of_below hb,(HD.out.below hb).wider (fun b h=>.inl h)⟩
theorem Ziy (wf:WF s) {h:Nat→Nat} {B:Nat} (u:Up s h B) (hD:PFor w F bf s) (i j k c:Nat) (x y:Nd) (hI:YI s i j x y) (hk:h j < k) (hm:i∉allF s k j) (hC:c≤x.ks.length) (hij:i≠j) (hbig:s.length < lots) (hkb:x.ks.length < lots) :
 Calls Tryz.prog 94 #[ptr bf,.int .i64 i,.int .i64 j,.int .i64 c] w (TMv (Ze i c 1) F w bf ((s.set i { x with ks:=x.ks.take c++j::x.ks.drop c }).set j { y with p:=i })):=by
 obtain⟨bn,cap,pn,hD⟩:=hD
 have C1:=hid (may_ok wf u hD i j k c x y hI hk hm hC)
 have C2:=hid (fun w1 (hb:Below w.heap.size w w1)=>Zcv (hD.below hb) i j c x y hI.hx hI.hy hC hij hbig hkb)
 clear hD hI hk hm hC u wf hbig hkb
 go_enter Tryz.func94,Tryz.ntmps94
 go_wp2_with (first
  | (go_at_call 146;refine C1.out.mono ?_;rintro e w1 ⟨rfl,hb⟩)
  | (go_at_call 107;refine(C2.out _ hb).mono ?_;rintro e w2 ⟨rfl,hk2,hf2⟩)
  | (go_at_call 109;refine(ZaX _ _ _ (by decide) (by decide) _).mono ?_;rintro e w3 ⟨x3,y3,z3,rfl,hb3,hS3,l1,l2,l3⟩
     have H3:=hid (And.intro hS3 (And.intro l1 (And.intro l2 l3)))
     clear hS3 l1 l2 l3))
 go_ret2
 obtain⟨hS3,l3⟩:=H3.out
 refine⟨_,w2.heap.size,rfl,((Zb.of_below hb).trans (hk2.mono (fun b _ e=>.inl e))).trans (Zb.of_below hb3),Nat.le_trans hb.size hk2.size,hb3.size,(hf2.narrow.below hb3).wider (fun b e=>?_),hS3.move l3⟩
 rcases e.1 with h|h
 · exact .inl h
 · exact .inr ⟨Nat.le_trans hb.size h,e.2⟩
end
end
section
open Go.RowKit
section
variable {F:Nat→Prop} {bf bn cap:Nat} {pn:List PN} {s:List Nd}
theorem Zjj {B b:Nat} (wf:WF s) {h:Nat→Nat} {H:Nat} (u:Up s h H) (hF:∀ b,F b→b < B):∀ (k n:Nat),n < s.length→h n < k→∀ (w:World) (acc:ByteArray),Zh w F bf bn cap pn s→Bld B b (Lib.strCells acc) w→B≤w.heap.size→acc.size+(Yd s k n).size+20 < lots →
 Calls Tryz.prog 147 #[ptr bf,ptr b,.int .i64 n] w (Wrote B b (acc++Yd s k n) w):=by
 intro k
 induction k with
 | zero=>intro n _ hk;omega
 | succ k ih =>
   intro n hn hk w acc hD hb hBw hlen
   have hx:s[n]?=some s[n]:=List.getElem?_eq_getElem hn
   generalize s[n]=x at hx
   have h40:=wf.cap
   have hch:=wf.chars n x hx
   have hkl:x.ks.length≤40:=Xx 40 _ (wf.nodup n x hx) (fun c hc=>by have:=(wf.kid_lt u hx hc).1;omega)
   simp only[Yd,hx] at hlen ⊢
   cases ht:x.t with
   | true =>
     rw[ht,if_pos rfl,ByteArray.size_append] at hlen
     rw[if_pos rfl]
     exact Zjl hD hF n x hx ht (by omega) acc hb hBw hch.2 (by omega)
   | false =>
     rw[ht,if_neg (by decide),ByteArray.size_append] at hlen
     rw[if_neg (by decide)]
     refine Zjk hD hF n x (Yd s k) hx ht (by omega) (by unfold lots;omega) acc hb hBw (by omega) (fun c hc w1 a1 h1 h2 h3 h4=>?_)
     have:=wf.kid_lt u hx hc
     exact ih c this.1 (by omega) w1 a1 h1 h2 h3 h4
variable {w:World}
theorem tshow_no (hD:PFor w F bf s) (n:Int) (h:isB s n=false):Calls Tryz.prog 95 #[ptr bf,.int .i64 n] w (ZV F w bf s (.tuple #[.string ⟨#[]⟩,ZO n 1])):=by
 have HD:=hid hD
 obtain⟨bn,cap,pn,hD⟩:=hD
 have C:=hid (Jd hD n h)
 clear hD h
 go_enter Tryz.func95,Tryz.ntmps95
 go_wp2_with (go_at_call 87;refine C.out.mono ?_;rintro e w1 ⟨rfl,rfl⟩)
 go_ret2
 exact⟨rfl,Zb.refl _ _,HD.out.wider (fun b h=>.inl h)⟩
theorem ZiG (wf:WF s) (hD:PFor w F bf s) (n:Nat) (hn:n < s.length) (t:ByteArray) (ht:Lim (fun k=>Yd s k n) t):Calls Tryz.prog 95 #[ptr bf,.int .i64 n] w (ZV F w bf s (.tuple #[.string t,.nilIface])):=by
 have HD:=hid hD
 obtain⟨h,H,u⟩:=wf.up
 obtain⟨bn,cap,pn,hD⟩:=hD.narrow
 have C:=hid (Z4 hD n (ZC (by omega)))
 have hal:=Yr wf (h n+1) n hn
 have hsz:=Zee wf u (h n+1) n hn (by omega)
 have e:=(Zb7 wf u (k:=h n+1) (n:=n) (by omega)).unique ht
 have hb0:Bld w.heap.size w.heap.size (Lib.strCells ⟨#[]⟩) (w.alloc (.cells #[.pointer none,.slice none 0 0] 219)) :=
  .inl ⟨Nat.le_refl _,.slice none 0 0,heap_alloc_new w _,World.ownsRow_nil _ _ _ _,fun e=>by cases e⟩
 have hbl:Below w.heap.size w (w.alloc (.cells #[.pointer none,.slice none 0 0] 219)):=(Below.refl _ w).alloc (Nat.le_refl _) _
 have CW:=hid (Zjj (B:=w.heap.size) wf u (fun b hb=>hb.2) (h n+1) n hn (by omega) _ ⟨#[]⟩ (hD.under (fun b hb=>hb.2) hbl) hb0 (by simp) (by unfold lots;have:(⟨#[]⟩:ByteArray).size=0:=rfl;omega))
 rw[e,show (⟨#[]⟩:ByteArray)++t=t from by show ByteArray.empty++t=t;simp] at CW
 have HB:=hid hbl
 clear hD hal hsz e hb0 hbl ht
 go_enter Tryz.func95,Tryz.ntmps95
 go_wp2_with first
  | (go_at_call 87;refine C.out.mono ?_;rintro e w1 ⟨rfl,rfl⟩)
  | (go_at_call 147;refine CW.out.mono ?_;rintro e w2 ⟨rfl,hu2,hb2⟩
     have hs2:=hb2.size
     have CS:=hid (Tryz.Builder_String_any _ _ t.data.toList w2 (YX hu2) (by have:=HB.out.size;omega)))
  | (go_at_call 148;refine CS.out.mono ?_;rintro e w3 ⟨rfl,hb3⟩)
 go_ret2
 have hb4:=HB.out.trans (hb2.trans hb3)
 exact⟨rfl,Zb.of_below hb4,(HD.out.below hb4).wider (fun b h=>.inl h)⟩
end
end
end Go.Proofs.YtabogkonklplcaaGreatDoor
