import Derived.Test.YtabogkonklplcaaGreatDoorJ28
import Derived.Test.YtabogkonklplcaaGreatDoorJ24
import Derived.Test.YtabogkonklplcaaGreatDoorJ18
import Derived.Test.YtabogkonklplcaaGreatDoorJ21
import Derived.Test.YtabogkonklplcaaGreatDoorJ22
import Derived.Test.YtabogkonklplcaaGreatDoorJ13
import Derived.Test.YtabogkonklplcaaGreatDoorJ23
namespace Go.Proofs.YtabogkonklplcaaGreatDoor
set_option linter.unusedSimpArgs false
set_option linter.unusedVariables false
set_option maxRecDepth 20000
set_option maxHeartbeats 8000000
section
open Go.RowKit
section
variable {w:World} {F:Nat→Prop} {bf bn cap:Nat} {pn:List PN} {s:List Nd}
theorem Zh.setKids (h:Zh w F bf bn cap pn s) {i g c:Nat} {r:PN} {x:Nd} (hr:pn[i]?=some r) (hx:s[i]?=some x) {w2:World} {ks:List Nat} (hk:Zb (fun b=>r.kv.ownBlock=some b) w w2)
 (hrow:w2.ownsRow 0 3 1 (.slice (some ⟨g,0,none⟩) ks.length c) ks.length (Zg ks)) (hg:r.kv.ownBlock=some g∨w.heap.size≤g) {G:Nat→Prop} (hG:∀ b,F b∨w.heap.size≤b→G b) :
 Zh (w2.setCell ⟨bn,i*4+2,none⟩ (.slice (some ⟨g,0,none⟩) ks.length c)) G bf bn cap (pn.set i { r with kv:=.slice (some ⟨g,0,none⟩) ks.length c }) (s.set i { x with ks:=ks }):=by
 have ho:=h.ok i r x hr hx
 have hi:=(List.getElem?_eq_some_iff.1 hr).1
 have hi':=(List.getElem?_eq_some_iff.1 hx).1
 have hlt:=h.lt
 have hgf:g≠bf:=by
  rcases hg with e|e
  · exact(ho.apart g e).2.1
  · omega
 have hgn:g≠bn:=by
  rcases hg with e|e
  · exact(ho.apart g e).2.2
  · omega
 have hk2:Zb (fun b=>b=bn) w2 (w2.setCell ⟨bn,i*4+2,none⟩ (.slice (some ⟨g,0,none⟩) ks.length c)):=(Zb.refl (fun b=>b=bn) w2).setCell (p:=⟨bn,i*4+2,none⟩) (.inl rfl) _
 refine⟨?_,?_,hG _ (.inl h.Ff),hG _ (.inl h.Fn),h.ne,by simpa using h.len,?_,?_⟩
 · have e1:=hk.block bf hlt.1 (fun e=>(ho.apart bf e).2.1 rfl)
   rw[hk2.block bf (by have:=hk.size;omega) h.ne,e1,List.length_set]
   exact h.forest
 · have hn:=hk.row h.nodes (fun b e e2=>by cases e;exact(ho.apart _ e2).2.2 rfl)
   have:=(hn.stored (i*4+2) (.slice (some ⟨g,0,none⟩) ks.length c)).1
   rw[ZdR pn i r { r with kv:=.slice (some ⟨g,0,none⟩) ks.length c } hr 2 (by omega) _ rfl] at this
   rw[List.length_set]
   exact this
 · intro k r1 x1 h1 h2
   rw[List.getElem?_set] at h1 h2
   by_cases hik:i=k
   · subst hik
     rw[if_pos rfl,if_pos hi] at h1
     rw[if_pos rfl,if_pos hi'] at h2
     cases h1
     cases h2
     refine⟨ho.t,ho.p,ho.ch,hk2.row hrow (fun b e e2=>by cases e;exact hgn e2),fun b e=>?_⟩
     cases e
     refine⟨hG _ ?_,hgf,hgn⟩
     rcases hg with e|e
     · exact .inl (ho.apart g e).1
     · exact .inr e
   · rw[if_neg hik] at h1 h2
     have o:=h.ok k r1 x1 h1 h2
     have o2:POk w2 F bf bn r1 x1:=o.keeps hk (fun b e e2=>h.sep i k r r1 hik hr h1 b e2 e)
     have o3:=o2.keeps hk2 (fun b e e2=>(o.apart b e).2.2 e2)
     exact⟨o3.t,o3.p,o3.ch,o3.kids,fun b e=>⟨hG _ (.inl (o3.apart b e).1),(o3.apart b e).2⟩⟩
 · have key:∀ (k:Nat) (r1:PN),k≠i→pn[k]?=some r1→r1.kv.ownBlock≠some g:=by
    intro k r1 hki h1 e
    rcases hg with eg|eg
    · exact h.sep i k r r1 (fun e=>hki e.symm) hr h1 g eg e
    · have hkl:k<s.length:=by rw[← h.len];exact(List.getElem?_eq_some_iff.1 h1).1
      have o:=h.ok k r1 _ h1 (List.getElem?_eq_getElem hkl)
      have:=(o.kids.lt g e).2
      omega
   intro a b ra rb hab h1 h2 c' e
   rw[List.getElem?_set] at h1 h2
   by_cases ha:i=a
   · subst ha
     rw[if_pos rfl,if_pos hi] at h1
     cases h1
     rw[if_neg hab] at h2
     cases e
     exact key b rb (fun e=>hab e.symm) h2
   · rw[if_neg ha] at h1
     by_cases hb:i=b
     · subst hb
       rw[if_pos rfl,if_pos hi] at h2
       cases h2
       intro e2
       cases e2
       exact key a ra (fun e=>ha e.symm) h1 e
     · rw[if_neg hb] at h2
       exact h.sep a b ra rb hab h1 h2 c' e
theorem Zh.afterInsert (h:Zh w F bf bn cap pn s) {i j g c k:Nat} {r:PN} {x y:Nd} (hr:pn[i]?=some r) (hx:s[i]?=some x) (hy:s[j]?=some y) (hij:i≠j) (hkl:k≤x.ks.length) {wa w2:World} (hwa:Below w.heap.size w wa)
 (hk:Zb (fun b=>r.kv.ownBlock=some b) wa w2) (hrow:w2.ownsRow 0 3 1 (.slice (some ⟨g,0,none⟩) (x.ks.length+1) c) (x.ks.length+1) (Zg (Xe x.ks k j))) (hg:r.kv.ownBlock=some g∨wa.heap.size≤g) :
 Zb F w ((w2.setCell ⟨bn,i*4+2,none⟩ (.slice (some ⟨g,0,none⟩) (x.ks.length+1) c)).setCell ⟨bn,j*4,none⟩ (.int .i64 (i:Int))) ∧
  PFor ((w2.setCell ⟨bn,i*4+2,none⟩ (.slice (some ⟨g,0,none⟩) (x.ks.length+1) c)).setCell ⟨bn,j*4,none⟩ (.int .i64 (i:Int))) (grow F w) bf ((s.set i { x with ks:=x.ks.take k++j::x.ks.drop k }).set j { y with p:=i }):=by
 have hl:=J3 x.ks k j hkl
 rw[← hl] at hrow ⊢
 have ho:=h.ok i r x hr hx
 have hsz:=hwa.size
 have h3:=(h.below hwa).setKids hr hx hk hrow hg (G:=grow F w) (fun b e=>e.imp id (fun e=>by omega))
 have hy3:(s.set i { x with ks:=Xe x.ks k j })[j]?=some y:=by rw[List.getElem?_set_ne hij];exact hy
 obtain⟨pn4,h4⟩:=h3.newPar i hy3
 refine⟨?_,bn,cap,pn4,h4⟩
 have k1:Zb F w w2:=(Zb.of_below hwa).trans (hk.mono (fun b _ e=>.inl (ho.apart b e).1))
 exact(k1.setCell (p:=⟨bn,i*4+2,none⟩) (.inl h.Fn) _).setCell (p:=⟨bn,j*4,none⟩) (.inl h.Fn) _
theorem ZcE {w:World} {g c n:Nat} {e:TypeId} {vs:List Value} (h:w.ownsRow 0 e 4 (.slice (some ⟨g,0,none⟩) n c) n vs) (k:Nat) (hk:k < n * 4):∃ v,w.cell? ⟨g,k,none⟩=some v∧w.frozen? ⟨g,k,none⟩=false:=by
 have h1:=h.cellAt k hk
 have hl:k<vs.length:=by rw[h.1];exact hk
 obtain⟨_,h2⟩:=h
 rcases h2 with ⟨h3,_⟩|⟨g',c',cur,hv,_,hh,_⟩
 · cases h3
 · cases hv
   exact⟨vs[k],by rw[h1];exact List.getElem?_eq_getElem hl,Zd hh _⟩
def AttPost (F:Nat→Prop) (w:World) (bf:Nat) (s':List Nd) (e:Ending) (w':World):Prop:=e=.returned (.tuple #[])∧Zb F w w'∧PFor w' (grow F w) bf s'
theorem Zcv (hD:Zh w F bf bn cap pn s) (i j k:Nat) (x y:Nd) (hx:s[i]?=some x) (hy:s[j]?=some y) (hk:k≤x.ks.length) (hij:i≠j) (hbig:s.length < lots) (hkb:x.ks.length < lots) :
 Calls Tryz.prog 107 #[ptr bf,.int .i64 i,.int .i64 j,.int .i64 k] w (AttPost F w bf ((s.set i { x with ks:=x.ks.take k++j::x.ks.drop k }).set j { y with p:=i })):=by
 have hi:i<s.length:=(List.getElem?_eq_some_iff.1 hx).1
 have hj:j<s.length:=(List.getElem?_eq_some_iff.1 hy).1
 have h0:=hD.nodesCell
 obtain⟨r,hr,ho,c0,c1,c2,c3⟩:=hD.look hx
 obtain⟨sa,sc,hkv⟩:∃ a c,r.kv=.slice a x.ks.length c:=by
  rcases ZB ho.kids with ⟨h1,h2⟩|⟨g,c,h1⟩
  · exact⟨none,0,by rw[h1,h2]⟩
  · exact⟨_,_,h1⟩
 have hwa:Below w.heap.size w (w.alloc (.cells #[.int .i64 (j:Int)] 3)):=(Below.refl _ w).alloc (Nat.le_refl _) _
 have hDa:=hD.below hwa
 have C:=hid (ins_one (hDa.ok i r x hr hx).kids k j hk hkb (heap_alloc_new w (.cells #[.int .i64 (j:Int)] 3)) (fun e=>by have:=(ho.kids.lt _ e).2;omega))
 have AFT:=hid (fun w2 g c hk' hrow hg=>hD.afterInsert (w2:=w2) (g:=g) (c:=c) hr hx hy hij hk hwa hk' hrow hg)
 have CELLS:=hid (fun (w2:World) (hk':Zb (fun b=>r.kv.ownBlock=some b) (w.alloc (.cells #[.int .i64 (j:Int)] 3)) w2)=>(And.intro ((hk'.cell hDa.nodesCell (fun e=>(ho.apart _ e).2.1 rfl))) (hk'.row hDa.nodes (fun b e e2=>by cases e;exact(ho.apart _ e2).2.2 rfl))))
 rw[hkv] at c2 C AFT CELLS
 have hlt:=hD.lt
 have hbfn:¬ bf=bn:=hD.ne
 have hlen:=hD.len
 clear hD c0 c1 c3 hr ho hDa hkv hx hy hbig hkb
 go_enter Tryz.func107,Tryz.ntmps107
 go_wp2_with (go_at_call 156;refine C.out.mono ?_;rintro e w2 ⟨g,c,rfl,hrow,hk',hg⟩
              have AF:=hid (AFT.out w2 g c hk' hrow hg)
              obtain⟨f0,fn⟩:=CELLS.out w2 hk'
              have FN:=hid fn
              obtain⟨v2,f2,f2f⟩:=ZcE fn (i*4+2) (by omega)
              obtain⟨v3,f3,f3f⟩:=ZcE fn (j*4) (by omega)
              clear fn hrow hk' hg)
 go_end0
 exact⟨rfl,AF.out⟩
theorem Zgt (hD:Zh w F bf bn cap pn s) (A B C:Int) (h:isB s A=false):Calls Tryz.prog 146 #[ptr bf,.int .i64 A,.int .i64 B,.int .i64 C] w fun e w'=>e=.returned (ZO A 1)∧Below w.heap.size w w':=by
 have C1:=hid (Jd hD A h)
 clear hD h
 go_enter Tryz.func146,Tryz.ntmps146
 go_wp2_with (go_at_call 87;refine C1.out.mono ?_;rintro e w1 ⟨rfl,rfl⟩)
 go_ret
 exact⟨rfl,Below.refl _ _⟩
theorem may_node (hD:Zh w F bf bn cap pn s) (A B C:Int) (hA:isB s A=true) (h:isB s B=false):Calls Tryz.prog 146 #[ptr bf,.int .i64 A,.int .i64 B,.int .i64 C] w fun e w'=>e=.returned (ZO B 1)∧Below w.heap.size w w':=by
 have C1:=hid (Z4 hD A hA)
 have C2:=hid (Jd hD B h)
 clear hD h hA
 go_enter Tryz.func146,Tryz.ntmps146
 go_wp2_with (go_at_call 87;(first|(refine C1.out.mono ?_;clear C1;rintro e w1 ⟨rfl,hw1⟩;subst hw1)|(refine C2.out.mono ?_;clear C2;rintro e w1 ⟨rfl,hw1⟩;subst hw1)))
 go_ret
 exact⟨rfl,Below.refl _ _⟩
theorem may_kind (hD:Zh w F bf bn cap pn s) (i j:Nat) (C:Int) (x:Nd) (hx:s[i]?=some x) (hj:j < s.length) (ht:x.t=true):Calls Tryz.prog 146 #[ptr bf,.int .i64 i,.int .i64 j,.int .i64 C] w fun e w'=>e=.returned (ZO i 2)∧Below w.heap.size w w':=by
 have hi:i<s.length:=(List.getElem?_eq_some_iff.1 hx).1
 have C1:=hid (Z4 hD i (ZC (by omega)))
 have C2:=hid (Z4 hD j (ZC (by omega)))
 have h0:=hD.nodesCell
 obtain⟨r,hr,ho,c0,c1,c2,c3⟩:=hD.look hx
 rw[ht] at c1
 clear hD hx ho hr c0 c2 c3
 go_enter Tryz.func146,Tryz.ntmps146
 go_wp2_with (go_at_call 87;(first|(refine C1.out.mono ?_;clear C1;rintro e w1 ⟨rfl,hw1⟩;subst hw1)|(refine C2.out.mono ?_;clear C2;rintro e w1 ⟨rfl,hw1⟩;subst hw1)))
 go_ret
 exact⟨rfl,Below.refl _ _⟩
end
end
section
open Go.RowKit Go.Lib
theorem JO (n k:Int):Z2 (.iface 145 (.agg #[.int .i64 n,outV k])) n 3:=fun w hg=>(fault_O n k w hg).mono fun e w' ⟨h1,h2⟩=>⟨by rw [h1];simp [errV],h2⟩
section
variable {w:World} {F:Nat→Prop} {bf bn cap:Nat} {pn:List PN} {s:List Nd}
theorem Zc6 (hD:Zh w F bf bn cap pn s) (n:Int) (h:isB s n=false):Calls Tryz.prog 101 #[ptr bf,.int .i64 n] w fun e w'=>e=.returned (ZO n 1)∧w'=w:=by
 have C:=hid (Jd hD n h)
 clear hD h
 go_enter Tryz.func101,Tryz.ntmps101
 go_wp2_with (go_at_call 87;refine C.out.mono ?_;rintro e w1 ⟨rfl,rfl⟩)
 go_ret
 exact⟨rfl,rfl⟩
theorem Zc5 (hD:Zh w F bf bn cap pn s) (n:Nat) (x:Nd) (hx:s[n]?=some x) (ht:x.t=false):Calls Tryz.prog 101 #[ptr bf,.int .i64 n] w fun e w'=>e=.returned (ZO n 2)∧w'=w:=by
 have hi:n<s.length:=(List.getElem?_eq_some_iff.1 hx).1
 have C:=hid (Z4 hD n (ZC (by omega)))
 have h0:=hD.nodesCell
 obtain⟨r,hr,ho,c0,c1,c2,c3⟩:=hD.look hx
 rw[ht] at c1
 clear hD c0 c2 c3 hr ho hx
 go_enter Tryz.func101,Tryz.ntmps101
 go_wp2_with (go_at_call 87;refine C.out.mono ?_;rintro e w1 ⟨rfl,rfl⟩)
 go_ret
 exact⟨rfl,rfl⟩
theorem Jc (hD:Zh w F bf bn cap pn s) (n:Nat) (x:Nd) (hx:s[n]?=some x) (ht:x.t=true):Calls Tryz.prog 101 #[ptr bf,.int .i64 n] w fun e w'=>e=.returned .nilIface∧w'=w:=by
 have hi:n<s.length:=(List.getElem?_eq_some_iff.1 hx).1
 have C:=hid (Z4 hD n (ZC (by omega)))
 have h0:=hD.nodesCell
 obtain⟨r,hr,ho,c0,c1,c2,c3⟩:=hD.look hx
 rw[ht] at c1
 clear hD c0 c2 c3 hr ho hx
 go_enter Tryz.func101,Tryz.ntmps101
 go_wp2_with (go_at_call 87;refine C.out.mono ?_;rintro e w1 ⟨rfl,rfl⟩)
 go_ret
 exact⟨rfl,rfl⟩
theorem Zh.newChars (h:Zh w F bf bn cap pn s) {i:Nat} {x:Nd} {cs':List ByteArray} (hx:s[i]?=some x) :
 ∃ pn2,Zh (w.setCell ⟨bn,i*4+3,none⟩ (.string (catB cs'))) F bf bn cap pn2 (s.set i { x with cs:=cs' }):=by
 obtain⟨r,hr,ho⟩:=h.raw hx
 exact⟨_,h.setNode (r':={ r with ch:=catB cs' }) (x':={ x with cs:=cs' }) hr hx 3 (by omega) _ rfl ⟨ho.t,ho.p,rfl,ho.kids,ho.apart⟩ (fun k r1 hk h1 b e=>h.sep i k r r1 (fun e=>hk e.symm) hr h1 b e)⟩
end
section
variable {w:World} {F:Nat→Prop} {bf:Nat} {s:List Nd}
theorem ZeC (hD:PFor w F bf s) (n o c:Int) (t:ByteArray) (u:Value) (hT:Calls Tryz.prog 101 #[ptr bf,.int .i64 n] w fun e w'=>e=.returned (.iface 145 u)∧w'=w) :
 Calls Tryz.prog 68 #[ptr bf,.int .i64 n,.int .i64 o,.int .i64 c,.string t] w (ZV F w bf s (.tuple #[.nilFunc,.iface 145 u])):=by
 have HD:=hid hD
 have C:=hid hT
 clear hD hT
 go_enter Tryz.func68,Tryz.ntmps68
 go_wp2_with (go_at_call 101;refine C.out.mono ?_;rintro e w1 ⟨rfl,rfl⟩)
 go_ret2
 exact⟨rfl,Zb.refl _ _,HD.out.wider (fun b h=>.inl h)⟩
theorem Zce (hD:PFor w F bf s) (n:Nat) (o c:Int) (t:ByteArray) (x:Nd) (hx:s[n]?=some x) (ht:x.t=true) {Q:Value→Prop}
 (hS:∀ w1,Below w.heap.size w w1→Calls Tryz.prog 113 #[.string (catB x.cs),.int .i64 o,.int .i64 c,.string t,.int .i64 30] w1 fun e w'=>(∃ ty v,Q (.iface ty v)∧e=.returned (.tuple #[.string ⟨#[]⟩,.iface ty v]))∧Below w1.heap.size w1 w') :
 Calls Tryz.prog 68 #[ptr bf,.int .i64 n,.int .i64 o,.int .i64 c,.string t] w fun e w'=>∃ u,Q u∧ZV F w bf s (.tuple #[.nilFunc,.iface 145 (.agg #[.int .i64 n,u])]) e w':=by
 have HD:=hid hD
 obtain⟨bn,cap,pn,hD⟩:=hD
 have hi:n<s.length:=(List.getElem?_eq_some_iff.1 hx).1
 have C:=hid (Jc hD n x hx ht)
 have h0:=hD.nodesCell
 have hlt:=hD.lt
 obtain⟨r,hr,ho,c0,c1,c2,c3⟩:=hD.look hx
 have CS:=hid hS
 clear hD c0 c1 c2 hr ho hx hS
 go_enter Tryz.func68,Tryz.ntmps68
 go_wp2_with first
  | (go_at_call 101;refine C.out.mono ?_;rintro e w1 ⟨rfl,hw1⟩;replace hw1:=hw1.symm;subst hw1)
  | (go_at_call 113;refine(CS.out _ (by first|exact Below.refl _ _|go_grown)).mono ?_;rintro e w2 ⟨⟨ty,v,hQ,rfl⟩,hb2⟩)
 go_ret2
 exact⟨_,hQ,rfl,Zb.of_below hb2,(HD.out.below hb2).wider (fun b h=>.inl h)⟩
theorem ZeB (hD:PFor w F bf s) (n:Nat) (o:Nat) (c:Int) (t:ByteArray) (x:Nd) (hx:s[n]?=some x) (ht:x.t=true) (hlen:x.cs.length≤30) (hch:∀ d∈x.cs,IsCh d) (ho':o≤x.cs.length) (lf cs':List ByteArray) (hlf:Zr t=some lf) (hl30:lf.length≤30) (hc0:0≤c)
 (hS:∀ w1,Below w.heap.size w w1→Calls Tryz.prog 113 #[.string (catB x.cs),.int .i64 (o:Int),.int .i64 c,.string t,.int .i64 30] w1 fun e w'=>e=.returned (.tuple #[.string (catB cs'),.nilIface])∧Below w1.heap.size w1 w') :
 Calls Tryz.prog 68 #[ptr bf,.int .i64 n,.int .i64 (o:Int),.int .i64 c,.string t] w (TMv (Zl n o (min c ((x.cs.length:Int) - o)) lf.length) F w bf (s.set n { x with cs:=cs' })):=by
 obtain⟨bn,cap,pn,hD⟩:=hD
 have hi:n<s.length:=(List.getElem?_eq_some_iff.1 hx).1
 have C:=hid (Jc hD n x hx ht)
 have h0:=hD.nodesCell
 have hlt:=hD.lt
 obtain⟨r,hr,ho,c0,c1,c2,c3⟩:=hD.look hx
 have CS:=hid hS
 have CC:=hid (fun w1=>Y6 x.cs hch (by unfold lots;omega) w1)
 have CT:=hid (fun w1=>Y6 lf (JI t.size t lf (Nat.le_refl _) hlf) (by unfold lots;omega) w1)
 rw[JH t.size t lf (Nat.le_refl _) hlf] at CT
 have HD:=hid hD
 have HX:=hid hx
 have oI:(o:Int)≤(x.cs.length:Int):=by omega
 have lI:(x.cs.length:Int)≤30:=by omega
 clear hD c0 c1 c2 hr ho hx hS hch hlf ht
 go_enter Tryz.func68,Tryz.ntmps68
 go_wp2_with first
  | (go_at_call 101;refine C.out.mono ?_;rintro e w1 ⟨rfl,hw1⟩;replace hw1:=hw1.symm;subst hw1)
  | (go_at_call 113;refine(CS.out _ (by first|exact Below.refl _ _|go_grown)).mono ?_;rintro e w2 ⟨rfl,hb2⟩
     have d3:=(hb2.cell (p:=⟨bn,n*4+3,none⟩) hlt.2).trans c3)
  | (go_at_call 105;refine(CC.out _).mono ?_;clear CC;rintro e w3 ⟨rfl,hb3⟩
     have HB3:=hid (hb2.trans (hb3.mono hb2.size))
     have g3:=(HB3.out.cell (p:=⟨bn,n*4+3,none⟩) hlt.2).trans c3
     obtain⟨gv,g4,gf⟩:=(HD.out.below HB3.out).cellsThere (i:=n) (k:=3) hi (by omega)
     clear d3)
  | (go_at_call 105;refine(CT.out _).mono ?_;rintro e w4 ⟨rfl,hb4⟩)
  | (go_at_call 104;refine(Zd7 _ _ _ _ _ (by omega) (by omega) (by omega) (by omega) (by omega) (by omega)).mono ?_;rintro e w5 ⟨bs,rfl,hb5,hM5⟩
     have H5:=hid hM5
     clear hM5)
 go_ret2
 obtain⟨pn2,h2⟩:=(HD.out.below HB3.out).newChars (cs':=cs') HX.out
 have hb:=hb4.trans (hb5.mono hb4.size)
 have hz4:=hb4.size
 rw[World.size_setCell] at hz4
 have hz3:=HB3.out.size
 exact⟨_,_,rfl,((Zb.of_below HB3.out).setCell (p:=⟨bn,n*4+3,none⟩) (.inl HD.out.Fn) _).trans (Zb.of_below hb),by omega,hb5.size,⟨_,_,_,(h2.below hb).wider (fun b h=>.inl h)⟩,H5.out⟩
end
theorem J2 {w:World} {F:Nat→Prop} {bx:Nat} {s s':List Nd} {rs:List Sp} (hg:GG w) (hP:Zv w F bx ⟨s,rs⟩) {a y:Int} (A B C:Int) (t:ByteArray)
 (hT:∀ (F':Nat→Prop) (bf:Nat),PFor w F' bf s→Calls Tryz.prog 68 #[ptr bf,.int .i64 A,.int .i64 B,.int .i64 C,.string t] w fun e w'=>∃ ty u,Z2 (.iface ty u) a y∧ZV F' w bf s' (.tuple #[.nilFunc,.iface ty u]) e w') :
 Calls Tryz.prog 34 #[ptr bx,.int .i64 A,.int .i64 B,.int .i64 C,.string t] w (ZY F w bx ⟨s',rs⟩ (errV a y)):=by
 obtain⟨bf,bl,sv,hD⟩:=hP
 have C:=hid (hT _ _ hD.nodes)
 have c0:w.cell? ⟨bx,0,none⟩=some (ptr bf):=Za hD.doc 0
 have AF:=hid (fun w1 w2=>Xc (w1:=w1) (w2:=w2) (s':=s') hg hD)
 have AG:=hid (fun w1=>Xt (w1:=w1) (F:=F) (bx:=bx) (bl:=bl) (sv:=sv) hg)
 clear hD hT hg
 go_enter Tryz.func34,Tryz.ntmps34
 go_wp2_with first
  | (go_at_call 68;refine C.out.mono ?_;rintro e w1 ⟨ty,u,hE,rfl,hk,hf⟩;have E1:=hid (ZaI (AG.out w1 hk) bx .nilFunc hE);have A1:=hid (fun w2=>AF.out w1 w2 hk hf);clear hk hf hE)
  | (go_at_call 64;refine E1.out.mono ?_;rintro e w2 ⟨rfl,hb⟩)
 go_ret
 exact⟨rfl,(A1.out _ hb).1,_,_,_,(A1.out _ hb).2⟩
end
section
open Go.RowKit Go.Lib
theorem cat_ge (l:List ByteArray) (h:∀ c∈l,IsCh c):l.length≤(catB l).size:=by
 induction l with
 | nil=>exact Nat.zero_le _
 | cons c l ih =>
   have h1:=ih (fun d hd=>h d (by simp[hd]))
   have h2:=(h c (by simp)).1
   rw[XI,ByteArray.size_append,List.length_cons];omega
theorem Zff (t:ByteArray) (l:List ByteArray) (h:Zr t=some l):l.length≤t.size:=by
 have:=cat_ge l (JI t.size t l (Nat.le_refl _) h)
 rwa [JH t.size t l (Nat.le_refl _) h] at this
theorem Zaa {s:List Nd} (wf:WF s) {n:Nat} {x:Nd} (hx:s[n]?=some x) (ht:x.t=true) {cs:List ByteArray} (hc:cs.length≤30∧∀ c∈cs,IsCh c):WF (s.set n { x with cs:=cs }):=by
 have key:∀ (i:Nat) (y:Nd),(s.set n { x with cs:=cs })[i]?=some y→∃ z,s[i]?=some z∧y.t=z.t∧y.ks=z.ks∧y.p=z.p∧(y.cs=z.cs∨i=n∧y.cs=cs):=by
  intro i y h
  rw[List.getElem?_set] at h
  by_cases hi:n=i
  · subst hi
    have hl:=(List.getElem?_eq_some_iff.1 hx).1
    rw[if_pos rfl,if_pos hl] at h
    cases h
    exact⟨x,hx,rfl,rfl,rfl,.inr ⟨rfl,rfl⟩⟩
  · rw[if_neg hi] at h
    exact⟨y,h,rfl,rfl,rfl,.inl rfl⟩
 have back:∀ (i:Nat) (z:Nd),s[i]?=some z→∃ y,(s.set n { x with cs:=cs })[i]?=some y∧y.t=z.t∧y.ks=z.ks∧y.p=z.p:=by
  intro i z h
  by_cases hi:n=i
  · subst hi
    have hl:=(List.getElem?_eq_some_iff.1 hx).1
    obtain rfl:x=z:=Option.some.inj (hx.symm.trans h)
    exact⟨{ x with cs:=cs },by rw[List.getElem?_set,if_pos rfl,if_pos hl],rfl,rfl,rfl⟩
  · exact⟨z,by rw[List.getElem?_set,if_neg hi];exact h,rfl,rfl,rfl⟩
 refine⟨by simpa using wf.pos,by simpa using wf.cap,?_,?_,?_,?_,?_,?_,?_⟩
 · obtain⟨h,B,u⟩:=wf.up
   refine⟨h,B,u.1,fun i y hy hp=>?_⟩
   obtain⟨z,hz,_,_,ep,_⟩:=key i y hy
   rw[List.length_set,ep]
   exact u.par i z hz (by omega)
 · intro i y hy c hc'
   obtain⟨z,hz,_,ek,_,_⟩:=key i y hy
   rw[ek] at hc'
   obtain⟨z2,hz2,hp2⟩:=wf.kid i z hz c hc'
   obtain⟨y2,hy2,_,_,ep2⟩:=back c z2 hz2
   exact⟨y2,hy2,by rw[ep2];exact hp2⟩
 · intro c y hy
   obtain⟨z,hz,_,_,ep,_⟩:=key c y hy
   rcases wf.par c z hz with h|⟨i,z2,h1,h2,h3⟩
   · exact .inl (by rw[ep];exact h)
   · obtain⟨y2,hy2,_,ek2,_⟩:=back i z2 h2
     exact .inr ⟨i,y2,by rw[ep];exact h1,hy2,by rw[ek2];exact h3⟩
 · intro i y hy
   obtain⟨z,hz,_,ek,_,_⟩:=key i y hy
   rw[ek];exact wf.nodup i z hz
 · intro y hy
   obtain⟨z,hz,_,_,ep,_⟩:=key 0 y hy
   rw[ep];exact wf.root z hz
 · intro i y hy
   obtain⟨z,hz,et,ek,_,ec⟩:=key i y hy
   refine⟨fun h=>by rw[ek];exact(wf.elem i z hz).1 (by rw[← et];exact h),fun h=>?_⟩
   rcases ec with ec|⟨rfl,ec⟩
   · rw[ec];exact(wf.elem i z hz).2 (by rw[← et];exact h)
   · obtain rfl:x=z:=Option.some.inj (hx.symm.trans hz)
     rw[et,ht] at h;cases h
 · intro i y hy
   obtain⟨z,hz,_,_,_,ec⟩:=key i y hy
   rcases ec with ec|⟨_,ec⟩
   · rw[ec];exact wf.chars i z hz
   · rw[ec];exact hc
end
section
open Go.RowKit Go.Lib
theorem Zk.newSpans {w w1:World} {F:Nat→Prop} {bx bf bl:Nat} {sv v':Value} {s:List Nd} {rs rs':List Sp} (h:Zk w F bx bf bl sv ⟨s,rs⟩) (hg:GG w) (hk1:Zb (fun b=>sv.ownBlock=some b) w w1)
 (ho:w1.ownsRow 0 79 4 v' rs'.length (rs'.flatMap Sp.cells)) (hgn:∀ b,v'.ownBlock=some b→sv.ownBlock=some b∨w.heap.size≤b) :
 Zk (w1.setCell ⟨bl,1,none⟩ v') (grow F w) bx bf bl v' ⟨s,rs'⟩:=by
 have hlx:=Zc h.doc
 have hll:=Zc h.list
 have hsx:sv.ownBlock≠some bx:=fun e=>(h.apart bx e).2.2.1 rfl
 have hsl:sv.ownBlock≠some bl:=fun e=>(h.apart bl e).2.2.2 rfl
 have hk:Zb (fun b=>sv.ownBlock=some b∨b=bl) w (w1.setCell ⟨bl,1,none⟩ v'):=(hk1.mono (fun k _ e=>.inl e)).setCell (p:=⟨bl,1,none⟩) (.inl (.inr rfl)) _
 have hvx:v'.ownBlock≠some bx:=fun e=>by
  rcases hgn bx e with e|e
  · exact hsx e
  · omega
 have hvl:v'.ownBlock≠some bl:=fun e=>by
  rcases hgn bl e with e|e
  · exact hsl e
  · omega
 refine⟨.inl h.Fx,h.Hx,?_,.inl h.Fl,h.Hl,h.ne,?_,XV ho hvl _,fun b e=>?_,?_⟩
 · rw[hk.block bx hlx (fun e=>by rcases e with e|e;exact hsx e;exact h.ne e.symm)];exact h.doc
 · have e1:=(hk1.block bl hll hsl).trans h.list
   rw[heap_setCell_same w1 bl 1 _ _ _ e1]
   simp
 · have hb:b≠bx∧b≠bl:=⟨fun e2=>hvx (by rw[← e2];exact e),fun e2=>hvl (by rw[← e2];exact e)⟩
   rcases hgn b e with e|e
   · exact⟨.inl (h.apart b e).1,(h.apart b e).2.1,hb⟩
   · exact⟨.inr e,fun hh=>by have:=hg.lt hh;omega,hb⟩
 · refine(h.nodes.narrow.keeps hk (fun b hb e=>?_)).wider (fun b hb=>⟨.inl hb.1.1,hb.1.2.1,hb.1.2.2.1,fun e=>?_,hb.1.2.2.2.2⟩)
   · rcases e with e|e
     · exact hb.1.2.2.2.1 e
     · exact hb.1.2.2.1 e
   · rcases hgn b e with e|e
     · exact hb.1.2.2.2.1 e
     · have:=hb.2;omega
section
variable {w:World} {F:Nat→Prop} {bx bf bl:Nat} {sv:Value} {s:List Nd} {rs:List Sp}
theorem J0 (hD:Zk w F bx bf bl sv ⟨s,rs⟩) (r:Int) (h:r < 0∨(rs.length:Int)≤r) :
 Calls Tryz.prog 69 #[ptr bl,.int .i64 r] w fun e w'=>e=.returned (.tuple #[spV ⟨0,0,0,0⟩,.iface 141 (.agg #[.int .i64 r])])∧Below w.heap.size w w':=by
 obtain⟨a,c,hsv⟩:=Zo hD.spans
 have c1:w.cell? ⟨bl,1,none⟩=some sv:=Za hD.list 1
 rw[hsv] at c1
 have hll:=Zc hD.list
 clear hD
 by_cases hn:r<0
 · have d1:decide (r<0)=true:=decide_eq_true hn
   go_enter Tryz.func69,Tryz.ntmps69
   go_wp2
   refine bodyPost_ret (v:=.tuple #[spV ⟨0,0,0,0⟩,.iface 141 (.agg #[.int .i64 r])]) (by simp[results,Tryz.results69,go_sem]) rfl ?_
   exact⟨rfl,by go_grown⟩
 · have d1:decide (r<0)=false:=decide_eq_false hn
   have d2:decide ((rs.length:Int)≤r)=true:=decide_eq_true (by omega)
   go_enter Tryz.func69,Tryz.ntmps69
   go_wp2
   refine bodyPost_ret (v:=.tuple #[spV ⟨0,0,0,0⟩,.iface 141 (.agg #[.int .i64 r])]) (by simp[results,Tryz.results69,go_sem]) rfl ?_
   exact⟨rfl,by go_grown⟩
theorem Zk.spanCells (hD:Zk w F bx bf bl sv ⟨s,rs⟩) {r:Nat} {x:Sp} (hx:rs[r]?=some x):∃ g c,sv=.slice (some ⟨g,0,none⟩) rs.length c∧g < w.heap.size∧w.cell? ⟨g,r * 4,none⟩=some (.int .i64 x.a)∧w.cell? ⟨g,r * 4+1,none⟩=some (.int .i64 x.b)∧w.cell? ⟨g,r * 4+2,none⟩=some (.int .i64 x.c)∧w.cell? ⟨g,r * 4+3,none⟩=some (.int .i64 x.d):=by
 have hr:r<rs.length:=(List.getElem?_eq_some_iff.1 hx).1
 obtain⟨g,rc,hrve⟩:∃ g c,sv=.slice (some ⟨g,0,none⟩) rs.length c:=by
  rcases ZB hD.spans with ⟨_,h0⟩|⟨g,c,h⟩
  · simp only at h0;omega
  · exact⟨g,c,h⟩
 have hrow:=hD.spans
 rw[hrve] at hrow
 refine⟨g,rc,hrve,(hrow.lt g rfl).2,?_,?_,?_,?_⟩
 · have:=hrow.cellAt (r*4+0) (by omega);rw[ZX rs r x hx 0 (by omega)] at this;simpa[Sp.cells] using this
 · have:=hrow.cellAt (r*4+1) (by omega);rw[ZX rs r x hx 1 (by omega)] at this;simpa[Sp.cells] using this
 · have:=hrow.cellAt (r*4+2) (by omega);rw[ZX rs r x hx 2 (by omega)] at this;simpa[Sp.cells] using this
 · have:=hrow.cellAt (r*4+3) (by omega);rw[ZX rs r x hx 3 (by omega)] at this;simpa[Sp.cells] using this
theorem J1 (hD:Zk w F bx bf bl sv ⟨s,rs⟩) (r:Nat) (x:Sp) (hx:rs[r]?=some x) :
 Calls Tryz.prog 69 #[ptr bl,.int .i64 (r:Int)] w fun e w'=>e=.returned (.tuple #[spV x,.nilIface])∧Below w.heap.size w w':=by
 have hr:r<rs.length:=(List.getElem?_eq_some_iff.1 hx).1
 obtain⟨g,c,hsv,hgl,e0,e1,e2,e3⟩:=hD.spanCells hx
 have c1:w.cell? ⟨bl,1,none⟩=some sv:=Za hD.list 1
 rw[hsv] at c1
 have hll:=Zc hD.list
 have d1:decide ((r:Int)<0)=false:=decide_eq_false (by omega)
 have d2:decide ((rs.length:Int)≤(r:Int))=false:=decide_eq_false (by omega)
 have hgn:¬ w.heap.size=g:=by omega
 clear hD hx hsv
 go_enter Tryz.func69,Tryz.ntmps69
 go_wp2
 refine bodyPost_ret (v:=.tuple #[spV x,.nilIface]) (by simp[results,Tryz.results69,go_sem, *]) rfl ?_
 exact⟨rfl,by go_grown⟩
theorem Zgd (hD:Zk w F bx bf bl sv ⟨s,rs⟩) (h6:6≤rs.length) :
 Calls Tryz.prog 96 #[ptr bl] w fun e w'=>e=.returned (.tuple #[.int .i64 0,ZO 0 7])∧Below w.heap.size w w':=by
 obtain⟨a,c,hsv⟩:=Zo hD.spans
 have c1:w.cell? ⟨bl,1,none⟩=some sv:=Za hD.list 1
 rw[hsv] at c1
 have hll:=Zc hD.list
 have h1:decide ((6:Int)≤(rs.length:Int))=true:=decide_eq_true (by omega)
 clear hD
 go_enter Tryz.func96,Tryz.ntmps96
 go_wp2
 go_ret2
 exact⟨rfl,by go_grown⟩
end
end
end Go.Proofs.YtabogkonklplcaaGreatDoor
