import Derived.Test.YtabogkonklplcaaGreatDoorJ03
import Derived.Laws.AppendOwnNone
import Derived.Deep.AppendLies
namespace Go.Proofs.YtabogkonklplcaaGreatDoor
set_option linter.unusedSimpArgs false
set_option linter.unusedVariables false
set_option maxRecDepth 20000
set_option maxHeartbeats 8000000
section
open Go.RowKit
theorem Tryz.info3:(Tryz.prog.info? 3).map (fun i=>(i.zero,i.size,i.bytes))=some (some (.int .i64 0),1,8):=by kernel_rfl
theorem ZaS {w:World} {e:TypeId} {z:Nat} {g c:Nat} {n:Nat} {xs:List Value} (h:w.ownsRow 0 e z (.slice (some ⟨g,0,none⟩) n c) n xs):n≤c:=by
 rcases h.2 with ⟨h,_⟩|⟨g',cap,cur,hv,_,_,hc,_⟩
 · cases h
 · cases hv;exact hc
theorem Zbi (g o j:Nat):(⟨g,o,none⟩:Addr).add j=⟨g,o+j,none⟩:=by unfold Addr.add;split <;> simp_all
theorem JX (l:List Nat):∀ u∈Zg l,u.oneCell'=true:=by
 intro u hu
 simp[Zg] at hu
 obtain⟨k,_,rfl⟩:=hu
 rfl
theorem Zdn (l:List Nat) (k:Nat):Zg (l.take k)=(Zg l).take k:=by simp [Zg]
theorem ZbV {w:World} {e:TypeId} {g c n:Nat} {xs:List Value} (h:w.ownsRow 0 e 1 (.slice (some ⟨g,0,none⟩) n c) n xs) (o:Nat) {ys:List Value} (hy:∀ (j:Nat) (u:Value),ys[j]?=some u→xs[o+j]?=some u) :
 ∀ (j:Nat) (u:Value),ys[j]?=some u→w.cell? ((⟨g,o,none⟩:Addr).add j)=some u:=by
 intro j u hu
 have hx:=hy j u hu
 have hl:=(List.getElem?_eq_some_iff.1 hx).1
 have:=h.1
 rw[Zbi,h.cellAt (o+j) (by omega),hx]
theorem Za0 {w0:World} {t e:TypeId} {g c n:Nat} {xs:List Value} (ht:Tryz.prog.underlying t=some (.slice e)) (he:Tryz.prog.elem t=e) (hs:∀ w,(sizeOf e).run Tryz.prog w=.ok 1 w) (hr:w0.ownsRow 0 e 1 (.slice (some ⟨g,0,none⟩) n c) n xs) (k:Nat) (hk:k≤n) :
 ∃ ad:Addr,(∀ w,(Instr.slice t (.slice (some ⟨g,0,none⟩) n c) (some (.int .i64 (k:Int))) none none).run Tryz.prog w=.ok (.slice (some ad) (n - k) (c - k)) w) ∧
  ∀ w:World,w.ownsRow 0 e 1 (.slice (some ⟨g,0,none⟩) n c) n xs→∀ (j:Nat) (u:Value),(xs.drop k)[j]?=some u→w.cell? (ad.add j)=some u:=by
 have hc:=ZaS hr
 have hl:=hr.1
 refine⟨if c=k then ⟨g,0,none⟩ else ⟨g,k,none⟩,fun w=>?_,fun w h j u hu=>?_⟩
 · rw[run_slice_l w t _ _ _ (by rw[he];exact ht) .i64 (k:Int) (by omega) (by omega),he,hs]
   simp only[Result.andThen,sliced,Int.toNat_natCast,Nat.mul_one]
   by_cases hck:c=k
   · rw[if_pos hck,if_pos hck]
   · rw[if_neg hck,if_neg hck,Option.map_some,Zbi,Nat.zero_add]
 · rw[List.getElem?_drop] at hu
   have hj:=(List.getElem?_eq_some_iff.1 hu).1
   rw[if_neg (by omega),Zbi,h.cellAt (k+j) (by omega),hu]
theorem Tryz.elem24:Tryz.prog.elem 24=3:=by kernel_rfl
theorem Tryz.sizeOf3 (w:World):(sizeOf 3).run Tryz.prog w=.ok 1 w:=by kernel_rfl
theorem ZeP (l:List Nat) (v:Value) (k:Nat) (n:Nat) (w:World) (hr:w.ownsRow 0 3 1 v l.length (Zg l)) (hk:k≤l.length) (hbig:l.length < lots) :
 Calls Tryz.prog 117 #[v,.int .i64 k,.int .i64 n] w fun e w'=>∃ v',e=.returned v'∧w'.ownsRow w.heap.size 3 1 v' (l.length+1) (Zg (l.take k++n::l.drop k))∧Below w.heap.size w w':=by
 obtain⟨i0,hi,hz0,hz1,hz2⟩:=info_parts Tryz.info3
 rcases ZB hr with ⟨hv,hn⟩|⟨g,c,hv⟩
 · subst hv
   obtain rfl:l=[]:=List.length_eq_zero_iff.1 hn
   obtain rfl:k=0:=by simpa using hk
   clear hr hk hn hbig
   go_enter Tryz.func117,Tryz.ntmps117
   go_wp2_with (first
    | (at_builtin;refine wpList_append_own_none rfl (.tmp 8) (.tmp 11) 24 rfl w.heap.size 3 i0 1 Tryz.underlying24 hi (.slice none 0 0) 0 [] rfl (World.ownsRow_nil _ _ _ _) rfl ?_)
    | (at_builtin;refine wpList_append_own _ rfl (.tmp 13) (.tmp 15) 24 rfl w.heap.size 3 i0 (.int .i64 0) 1 8 Tryz.underlying24 hi hz0 hz1 hz2 rfl (by decide) (.slice none 0 0) 0 [] rfl (World.ownsRow_nil _ _ _ _) ⟨w.heap.size,0,none⟩ 1 1 [.int .i64 n] rfl rfl (cell_one_new _ _ _) (by simp[Value.oneCell']) (by unfold maxLen;omega) (by omega) (by simp) ?_;intro v2 w2 ho2 hg2 _
       have hb2:Below w.heap.size w w2:=((Below.refl _ w).alloc (Nat.le_refl _) _).grown hg2 (by simp) (fun k e=>by cases e)
       clear hg2)
    | (at_builtin;refine wpList_append_own_none rfl (.tmp 17) (.tmp 20) 24 rfl w.heap.size 3 i0 1 Tryz.underlying24 hi v2 1 _ rfl (by simpa using ho2) rfl ?_))
   go_ret
   exact⟨v2,rfl,by simpa[Zg] using ho2,hb2⟩
 · subst hv
   have hkc:k≤c:=Nat.le_trans hk (ZaS hr)
   have HB:Hid (l.length<lots):=hbig
   clear hbig
   have src1:=ZbV hr 0 (ys:=Zg (l.take k)) (by intro j u hu;rw[Zdn] at hu;rw[List.getElem?_take] at hu;split at hu <;> simp_all)
   obtain⟨ad,hsl,hsrc⟩:=Za0 Tryz.underlying24 Tryz.elem24 Tryz.sizeOf3 hr k hk
   have SRC:Hid (∀ w:World,w.ownsRow 0 3 1 (.slice (some ⟨g,0,none⟩) l.length c) l.length (Zg l)→∀ (j:Nat) (u:Value),((Zg l).drop k)[j]?=some u→w.cell? (ad.add j)=some u):=hsrc
   clear hsrc
   go_enter Tryz.func117,Tryz.ntmps117
   go_wp2_with (first
    | (at_builtin;refine wpList_append_own _ rfl (.tmp 8) (.tmp 11) 24 rfl w.heap.size 3 i0 (.int .i64 0) 1 8 Tryz.underlying24 hi hz0 hz1 hz2 rfl (by decide) (.slice none 0 0) 0 [] rfl (World.ownsRow_nil _ _ _ _) ⟨g,0,none⟩ k c (Zg (l.take k)) rfl (by simp;omega) src1 (JX _) (by unfold maxLen;have:=HB.out;unfold lots at this;omega) (by have:=HB.out;unfold lots at this;omega) (Nat.le_refl _) ?_;intro v1 w1 ho1 hg1 _
       have hb1:Below w.heap.size w w1:=(Below.refl _ _).grown hg1 (Nat.le_refl _) (fun k e=>by cases e)
       have ho1':w1.ownsRow w.heap.size 3 1 v1 k (Zg (l.take k)):=by simpa using ho1
       clear ho1 hg1)
    | (at_builtin;refine wpList_append_own _ rfl (.tmp 13) (.tmp 15) 24 rfl w.heap.size 3 i0 (.int .i64 0) 1 8 Tryz.underlying24 hi hz0 hz1 hz2 rfl (by decide) v1 k _ rfl (ho1'.alloc _) ⟨w1.heap.size,0,none⟩ 1 1 [.int .i64 n] rfl rfl (cell_one_new _ _ _) (by simp[Value.oneCell']) (by unfold maxLen;have:=HB.out;unfold lots at this;omega) (by have:=HB.out;unfold lots at this;omega) (by have:=hb1.size;simp;omega) ?_;intro v2 w2 ho2 hg2 _
       have hb2:Below w.heap.size w w2:=(hb1.alloc hb1.size _).grown hg2 (by have:=hb1.size;simp;omega) (fun k e=>(ho1'.lt k e).1)
       clear hg2 ho1' hb1)
    | (at_builtin;refine wpList_append_own _ rfl (.tmp 17) (.tmp 20) 24 rfl w.heap.size 3 i0 (.int .i64 0) 1 8 Tryz.underlying24 hi hz0 hz1 hz2 rfl (by decide) v2 (k+1) _ rfl ho2 ad (l.length - k) (c - k) ((Zg l).drop k) rfl (by simp) (SRC.out w2 ((Zb.of_below (F:=fun _=>False) hb2).row hr (fun _ _ e=>e))) (fun u hu=>JX l u (List.mem_of_mem_drop hu)) (by unfold maxLen;have:=HB.out;unfold lots at this;omega) (by have:=HB.out;unfold lots at this;omega) hb2.size ?_;intro v3 w3 ho3 hg3 _
       have hb3:Below w.heap.size w w3:=hb2.grown hg3 hb2.size (fun k e=>(ho2.lt k e).1)
       clear hg3 hb2))
   go_ret
   refine⟨v3,rfl,?_,hb3⟩
   have e1:k+1+(l.length - k)=l.length+1:=by omega
   have e2:Zg (l.take k)++[Value.int .i64 (n:Int)]++(Zg l).drop k=Zg (l.take k++n::l.drop k):=by simp[Zg]
   rw[e1,e2] at ho3
   exact ho3
theorem Zja (l:List Nat) (v:Value) (k:Nat) (w:World) (hr:w.ownsRow 0 3 1 v l.length (Zg l)) (hk:k < l.length) (hbig:l.length < lots) :
 Calls Tryz.prog 120 #[v,.int .i64 k] w fun e w'=>∃ v',e=.returned v'∧w'.ownsRow w.heap.size 3 1 v' (l.length - 1) (Zg (l.take k++l.drop (k+1)))∧Below w.heap.size w w':=by
 obtain⟨i0,hi,hz0,hz1,hz2⟩:=info_parts Tryz.info3
 rcases ZB hr with ⟨hv,hn⟩|⟨g,c,hv⟩
 · omega
 · subst hv
   have hkc:k≤c:=Nat.le_trans (by omega) (ZaS hr)
   have HB:Hid (l.length<lots):=hbig
   have hk1:(k:Int)+1≤2000000:=by unfold lots at hbig;omega
   clear hbig
   have src1:=ZbV hr 0 (ys:=Zg (l.take k)) (by intro j u hu;rw[Zdn] at hu;rw[List.getElem?_take] at hu;split at hu <;> simp_all)
   obtain⟨ad,hsl,hsrc⟩:=Za0 Tryz.underlying24 Tryz.elem24 Tryz.sizeOf3 hr (k+1) hk
   have ec:(((k+1:Nat)):Int)=(k:Int)+1:=by omega
   rw[ec] at hsl
   have SRC:Hid (∀ w:World,w.ownsRow 0 3 1 (.slice (some ⟨g,0,none⟩) l.length c) l.length (Zg l)→∀ (j:Nat) (u:Value),((Zg l).drop (k+1))[j]?=some u→w.cell? (ad.add j)=some u):=hsrc
   clear hsrc ec
   go_enter Tryz.func120,Tryz.ntmps120
   go_wp2_with (first
    | (at_builtin;refine wpList_append_own _ rfl (.tmp 6) (.tmp 9) 24 rfl w.heap.size 3 i0 (.int .i64 0) 1 8 Tryz.underlying24 hi hz0 hz1 hz2 rfl (by decide) (.slice none 0 0) 0 [] rfl (World.ownsRow_nil _ _ _ _) ⟨g,0,none⟩ k c (Zg (l.take k)) rfl (by simp;omega) src1 (JX _) (by unfold maxLen;have:=HB.out;unfold lots at this;omega) (by have:=HB.out;unfold lots at this;omega) (Nat.le_refl _) ?_;intro v1 w1 ho1 hg1 _
       have hb1:Below w.heap.size w w1:=(Below.refl _ _).grown hg1 (Nat.le_refl _) (fun k e=>by cases e)
       have ho1':w1.ownsRow w.heap.size 3 1 v1 k (Zg (l.take k)):=by simpa using ho1
       clear ho1 hg1)
    | (at_builtin;refine wpList_append_own _ rfl (.tmp 11) (.tmp 15) 24 rfl w.heap.size 3 i0 (.int .i64 0) 1 8 Tryz.underlying24 hi hz0 hz1 hz2 rfl (by decide) v1 k _ rfl ho1' ad (l.length - (k+1)) (c - (k+1)) ((Zg l).drop (k+1)) rfl (by simp) (SRC.out w1 ((Zb.of_below (F:=fun _=>False) hb1).row hr (fun _ _ e=>e))) (fun u hu=>JX l u (List.mem_of_mem_drop hu)) (by unfold maxLen;have:=HB.out;unfold lots at this;omega) (by have:=HB.out;unfold lots at this;omega) hb1.size ?_;intro v3 w3 ho3 hg3 _
       have hb3:Below w.heap.size w w3:=hb1.grown hg3 hb1.size (fun k e=>(ho1'.lt k e).1)
       clear hg3 hb1))
   go_ret
   refine⟨v3,rfl,?_,hb3⟩
   have e1:k+(l.length - (k+1))=l.length - 1:=by omega
   have e2:Zg (l.take k)++(Zg l).drop (k+1)=Zg (l.take k++l.drop (k+1)):=by simp[Zg]
   rw[e1,e2] at ho3
   exact ho3
end
section
open Go.RowKit
theorem XV {w:World} {e:TypeId} {z:Nat} {v:Value} {n:Nat} {xs:List Value} (h:w.ownsRow 0 e z v n xs) {p:Addr} (hp:v.ownBlock≠some p.block) (u:Value):(w.setCell p u).ownsRow 0 e z v n xs :=
 (Zb.setCell (F:=fun b=>b=p.block) (Zb.refl _ w) (.inl rfl) u).row h (fun b e1 e2=>hp (by rw[e1,e2]))
section
variable {w:World} {F:Nat→Prop} {bd bn cap:Nat} {rn:List RN} {rv:Value} {s:List Nd} {rs:List Sp}
theorem NOk.keeps {G:Nat→Prop} {w':World} {r:RN} {x:Nd} (o:NOk w F bd bn rv r x) (hk:Zb G w w') (hG:∀ b,F b→b≠bd→b≠bn→¬ G b):NOk w' F bd bn rv r x :=
 ⟨o.t,o.p,hk.row o.chars (fun b e=>hG b (o.apartC b e).1 (o.apartC b e).2.1 (o.apartC b e).2.2.1),hk.row o.kids (fun b e=>hG b (o.apartK b e).1 (o.apartK b e).2.1 (o.apartK b e).2.2.1),o.apartC,o.apartK⟩
theorem Zf.narrow (h:Zf w F bd bn cap rn rv s rs):Zf w (fun b=>F b∧b < w.heap.size) bd bn cap rn rv s rs where
 doc:=h.doc
 nodes:=h.nodes
 ranges:=h.ranges
 Fd:=⟨h.Fd,h.lt.1⟩
 Fn:=⟨h.Fn,h.lt.2⟩
 ne:=h.ne
 apart:=fun b e=>⟨⟨(h.apart b e).1,(h.ranges.lt b e).2⟩,(h.apart b e).2⟩
 len:=h.len
 ok:=fun i r x hr hx =>
  have o:=h.ok i r x hr hx
  ⟨o.t,o.p,o.chars,o.kids,fun b e=>⟨⟨(o.apartC b e).1,(o.chars.lt b e).2⟩,(o.apartC b e).2⟩,fun b e=>⟨⟨(o.apartK b e).1,(o.kids.lt b e).2⟩,(o.apartK b e).2⟩⟩
theorem Zf.setNode (h:Zf w F bd bn cap rn rv s rs) {i:Nat} {r r':RN} {x x':Nd} (hr:rn[i]?=some r) (hx:s[i]?=some x) (j:Nat) (hj:j < 4) (u:Value) (he:r'.cells=r.cells.set j u) (ho:NOk w F bd bn rv r' x') :
 Zf (w.setCell ⟨bn,i*4+j,none⟩ u) F bd bn cap (rn.set i r') rv (s.set i x') rs:=by
 have hk:Zb (fun b=>b=bn) w (w.setCell ⟨bn,i*4+j,none⟩ u):=(Zb.refl (fun b=>b=bn) w).setCell (p:=⟨bn,i*4+j,none⟩) (.inl rfl) u
 refine⟨?_,?_,?_,h.Fd,h.Fn,h.ne,h.apart,by simpa using h.len,?_⟩
 · rw[hk.block bd (Zc h.doc) h.ne,List.length_set];exact h.doc
 · have:=(h.nodes.stored (i*4+j) u).1
   rw[Zfb rn i r r' hr j hj u he] at this
   rw[List.length_set]
   exact this
 · exact hk.row h.ranges (fun b e=>(h.apart b e).2.2)
 · intro k r1 x1 h1 h2
   rw[List.getElem?_set] at h1 h2
   by_cases hik:i=k
   · subst hik
     rw[if_pos rfl] at h1 h2
     have hi:=(List.getElem?_eq_some_iff.1 hr).1
     have hi':=(List.getElem?_eq_some_iff.1 hx).1
     rw[if_pos hi] at h1
     rw[if_pos hi'] at h2
     cases h1
     cases h2
     exact ho.keeps hk (fun b _ _ hb e=>hb e)
   · rw[if_neg hik] at h1 h2
     exact(h.ok k r1 x1 h1 h2).keeps hk (fun b _ _ hb e=>hb e)
theorem Zf.newKids (h:Zf w F bd bn cap rn rv s rs) {N i:Nat} {x:Nd} {v':Value} {ks':List Nat} (hF:∀ b,F b→b < N) (hx:s[i]?=some x) (hrow:w.ownsRow N 3 1 v' ks'.length (Zg ks')) :
 ∃ rn2,Zf (w.setCell ⟨bn,i*4+2,none⟩ v') (fun b=>F b∨N≤b) bd bn cap rn2 rv (s.set i { x with ks:=ks' }) rs:=by
 obtain⟨r,hr,ho⟩:=h.raw hx
 have hw:=h.wider (G:=fun b=>F b∨N≤b) (fun b e=>.inl e)
 have ho2:=hw.ok i r x hr hx
 have hb:=fun b e=>(hrow.lt b e).1
 have h0:w.ownsRow 0 3 1 v' ks'.length (Zg ks'):=by
  refine⟨hrow.1,?_⟩
  rcases hrow.2 with e|⟨g,c,cur,e,_,q⟩
  · exact .inl e
  · exact .inr ⟨g,c,cur,e,Nat.zero_le _,q⟩
 refine⟨_,hw.setNode (r':={ r with kv:=v' }) hr hx 2 (by omega) v' rfl ⟨ho2.t,ho2.p,ho2.chars,h0,ho2.apartC,fun b e=>?_⟩⟩
 have h1:=hb b e
 have h2:=hF _ h.Fd
 have h3:=hF _ h.Fn
 refine⟨.inr h1,by omega,by omega,fun e2=>?_⟩
 have h4:=hF _ (h.apart b e2).1
 omega
theorem Zf.newPar (h:Zf w F bd bn cap rn rv s rs) {i:Nat} {x:Nd} (p:Int) (hx:s[i]?=some x) :
 ∃ rn2,Zf (w.setCell ⟨bn,i*4+3,none⟩ (.int .i64 p)) F bd bn cap rn2 rv (s.set i { x with p:=p }) rs:=by
 obtain⟨r,hr,ho⟩:=h.raw hx
 exact⟨_,h.setNode (r':={ r with p:=p }) hr hx 3 (by omega) _ rfl ⟨ho.t,rfl,ho.chars,ho.kids,ho.apartC,ho.apartK⟩⟩
theorem Zf.pushed (h:Zf w F bd bn cap rn rv s rs) {w1:World} {g cap' B:Nat} {r:RN} {x:Nd} (hB:B≤w.heap.size) (hg:w.grownBy w1 (some bn))
 (ho:w1.ownsRow 0 119 4 (.slice (some ⟨g,0,none⟩) (rn.length+1) cap') (rn.length+1) (rn.flatMap RN.cells++r.cells)) (hgn:g=bn∨g=w.heap.size)
 (hn:NOk w (fun b=>F b∨B≤b) bd bn rv r x) :
 Zf (w1.setCell ⟨bd,0,none⟩ (.slice (some ⟨g,0,none⟩) (rn.length+1) cap')) (fun b=>F b∨B≤b) bd g cap' (rn++[r]) rv (s++[x]) rs:=by
 have hlt:=h.lt
 have hgd:bd≠g:=by
  rcases hgn with e|e
  · rw[e];exact h.ne
  · omega
 have hk1:Zb (fun b=>b=bn) w w1:=Zb.grown hg (fun k e=>by cases e;exact .inl rfl)
 have hk:Zb (fun b=>b=bn∨b=bd) w (w1.setCell ⟨bd,0,none⟩ (.slice (some ⟨g,0,none⟩) (rn.length+1) cap')) :=
  (hk1.mono (fun k _ e=>.inl e)).setCell (p:=⟨bd,0,none⟩) (.inl (.inr rfl)) _
 have far:∀ b,b<w.heap.size→b≠bn→b≠g:=fun b hb hbn=>by
  rcases hgn with e|e
  · rw[e];exact hbn
  · omega
 have move:∀ {r1:RN} {x1:Nd},NOk w (fun b=>F b∨B≤b) bd bn rv r1 x1→NOk (w1.setCell ⟨bd,0,none⟩ (.slice (some ⟨g,0,none⟩) (rn.length+1) cap')) (fun b=>F b∨B≤b) bd g rv r1 x1:=by
  intro r1 x1 o
  refine⟨o.t,o.p,hk.row o.chars ?_,hk.row o.kids ?_,?_,?_⟩
  · intro b e e2
    rcases e2 with e2|e2
    · exact(o.apartC b e).2.2.1 e2
    · exact(o.apartC b e).2.1 e2
  · intro b e e2
    rcases e2 with e2|e2
    · exact(o.apartK b e).2.2.1 e2
    · exact(o.apartK b e).2.1 e2
  · exact fun b e=>⟨(o.apartC b e).1,(o.apartC b e).2.1,far b (o.chars.lt b e).2 (o.apartC b e).2.2.1,(o.apartC b e).2.2.2⟩
  · exact fun b e=>⟨(o.apartK b e).1,(o.apartK b e).2.1,far b (o.kids.lt b e).2 (o.apartK b e).2.2.1,(o.apartK b e).2.2.2⟩
 refine⟨?_,?_,?_,.inl h.Fd,?_,hgd,?_,by simp[h.len],?_⟩
 · have e1:w1.heap[bd]?=_:=(hk1.block bd hlt.1 h.ne).trans h.doc
   rw[heap_setCell_same w1 bd 0 _ _ _ e1]
   simp
 · rw[List.length_append,List.flatMap_append]
   simpa using XV ho (p:=⟨bd,0,none⟩) (by simp[Value.ownBlock];exact fun e=>hgd e.symm) _
 · refine hk.row h.ranges (fun b e e2=>?_)
   rcases e2 with e2|e2
   · exact(h.apart b e).2.2 e2
   · exact(h.apart b e).2.1 e2
 · rcases hgn with e|e
   · rw[e];exact .inl h.Fn
   · exact .inr (by omega)
 · exact fun b e=>⟨.inl (h.apart b e).1,(h.apart b e).2.1,far b (h.ranges.lt b e).2 (h.apart b e).2.2⟩
 · intro i r1 x1 h1 h2
   by_cases hi:i<rn.length
   · rw[List.getElem?_append_left hi] at h1
     rw[List.getElem?_append_left (by rw[← h.len];exact hi)] at h2
     have o:=h.ok i r1 x1 h1 h2
     exact move ⟨o.t,o.p,o.chars,o.kids,fun b e=>⟨.inl (o.apartC b e).1,(o.apartC b e).2⟩,fun b e=>⟨.inl (o.apartK b e).1,(o.apartK b e).2⟩⟩
   · have hi1:=(List.getElem?_eq_some_iff.1 h1).1
     simp at hi1
     have ei:i=rn.length:=by omega
     subst ei
     rw[List.getElem?_append_right (Nat.le_refl _)] at h1
     rw[List.getElem?_append_right (by rw[← h.len];exact Nat.le_refl _)] at h2
     simp at h1
     simp[h.len] at h2
     subst h1
     subst h2
     exact move hn
end
def Z5:Nd:=⟨false,[],[],-1⟩
theorem rnew_any (w:World) :
 Calls Tryz.prog 41 #[] w fun e w'=>∃ bd,e=.returned (.pointer (some ⟨bd,0,none⟩))∧Below w.heap.size w w'∧RDoc w' (fun b=>w.heap.size≤b) bd [Z5] []:=by
 go_enter Tryz.func41,Tryz.ntmps41
 go_wp2
 go_ret
 refine⟨w.heap.size+1,rfl,((Below.refl _ w).alloc (Nat.le_refl _) _).alloc (by simp) _,w.heap.size,1,[⟨false,.slice none 0 0,.slice none 0 0,-1⟩],.slice none 0 0,?_⟩
 have e1:=heap_alloc_new (w.alloc (.cells #[.bool false,.slice none 0 0,.slice none 0 0,.int .i64 (-1)] 119)) (.cells #[.slice (some ⟨w.heap.size,0,none⟩) 1 1,.slice none 0 0] 123)
 refine⟨by simpa using e1,?_,World.ownsRow_nil _ _ _ _,by simp,by simp,by simp,?_,rfl,?_⟩
 · have:=(World.ownsRow_lit (base:=0) (e:=119) (size:=4) w #[.bool false,.slice none 0 0,.slice none 0 0,.int .i64 (-1)] 1 (Nat.zero_le _) (by decide) rfl).alloc (.cells #[.slice (some ⟨w.heap.size,0,none⟩) 1 1,.slice none 0 0] 123)
   simpa[RN.cells] using this
 · intro b e;cases e
 · intro i r x h1 h2
   cases i with
   | zero =>
     simp at h1 h2
     subst h1 h2
     exact⟨rfl,rfl,World.ownsRow_nil _ _ _ _,World.ownsRow_nil _ _ _ _,fun b e=>(by cases e),fun b e=>(by cases e)⟩
   | succ i=>simp at h1
end
section
open Go.RowKit
theorem Tryz.info119:(Tryz.prog.info? 119).map (fun i=>(i.zero,i.size,i.bytes))=some (some (.agg #[.bool false,.slice none 0 0,.slice none 0 0,.int .i64 0]),4,64):=by kernel_rfl
section
variable {w:World} {F:Nat→Prop} {bd bn cap:Nat} {rn:List RN} {rv:Value} {s:List Nd} {rs:List Sp}
theorem Zhl (hD:Zf w F bd bn cap rn rv s rs) (h40:40≤s.length) :
 Calls Tryz.prog 73 #[.pointer (some ⟨bd,0,none⟩)] w fun e w'=>e=.returned (.tuple #[.int .i64 0,.agg #[.int .i64 0,.int .i64 7]])∧Below w.heap.size w w':=by
 have h0:=hD.nodesCell
 have hl:bd<w.heap.size:=hD.lt.1
 clear hD
 have h1:(40:Int)≤s.length:=by omega
 go_enter Tryz.func73,Tryz.ntmps73
 go_wp2_with (go_at_call 48;refine(ZK _ _ _).mono ?_;rintro e w' ⟨rfl,rfl⟩)
 go_returns
 refine⟨rfl,?_⟩
 go_grown
theorem Zhm (hD:Zf w F bd bn cap rn rv s rs) (h40:s.length < 40) :
 Calls Tryz.prog 73 #[.pointer (some ⟨bd,0,none⟩)] w fun e w'=>e=.returned (.tuple #[.int .i64 s.length,.agg #[.int .i64 0,.int .i64 0]])∧Zb F w w'∧RDoc w' (fun b=>F b∨w.heap.size≤b) bd (s++[Z5]) rs:=by
 obtain⟨i0,hi,hz0,hz1,hz2⟩:=info_parts Tryz.info119
 have h0:=hD.nodesCell
 have hlt:=hD.lt
 have hl:bd<w.heap.size:=hlt.1
 have h1:(s.length:Int)<40:=by omega
 have hD2:Zf ((w.alloc (.cells #[.int .i64 0,.int .i64 0] 32)).alloc (.cells #[.bool false,.slice none 0 0,.slice none 0 0,.int .i64 (-1)] 119)) (fun b=>F b∧b<w.heap.size) bd bn cap rn rv s rs :=
  hD.narrow.below (((Below.refl _ w).alloc (Nat.le_refl _) _).alloc (by simp) _)
 have hrow:=hD2.nodes
 have hlen:=hD.len
 rw[hlen] at hrow
 clear hD
 have src:∀ (j:Nat) (u:Value),[Value.bool false,.slice none 0 0,.slice none 0 0,.int .i64 (-1)][j]?=some u→((w.alloc (.cells #[.int .i64 0,.int .i64 0] 32)).alloc (.cells #[.bool false,.slice none 0 0,.slice none 0 0,.int .i64 (-1)] 119)).cell? ((⟨w.heap.size+1,0,none⟩:Addr).add j)=some u:=by
  have:=World.news_of_block (heap_alloc_new (w.alloc (.cells #[.int .i64 0,.int .i64 0] 32)) (.cells #[.bool false,.slice none 0 0,.slice none 0 0,.int .i64 (-1)] 119))
  simpa using this
 have hq2:((w.alloc (.cells #[.int .i64 0,.int .i64 0] 32)).alloc (.cells #[.bool false,.slice none 0 0,.slice none 0 0,.int .i64 (-1)] 119)).heap[w.heap.size]?=some (.cells #[.int .i64 0,.int .i64 0] 32 (0,0)):=by
  rw[Below.heap_alloc _ _ _ (by simp),heap_alloc_new]
 have SRC:Hid _:=src
 have HD:Hid _:=hD2
 have HQ:Hid _:=hq2
 clear src hD2 hq2
 go_enter Tryz.func73,Tryz.ntmps73
 go_wp2_with (
  at_builtin
  refine wpList_append_lies _ rfl (.tmp 15) (.tmp 17) 120 rfl 0 119 i0 _ 4 64 Tryz.underlying120 hi hz0 hz1 hz2 rfl (by decide) (.slice (some ⟨bn,0,none⟩) s.length cap) s.length _ rfl hrow ⟨w.heap.size+1,0,none⟩ 1 1 [.bool false,.slice none 0 0,.slice none 0 0,.int .i64 (-1)] rfl rfl SRC.out (by simp[Value.oneCell']) (by decide) (by unfold maxLen;omega) (by omega) (Nat.zero_le _) (w.heap.size+1+1) (by simp) ?_
  intro g cap' w1 ho (hg:World.grownBy _ w1 (some bn)) (hgn:some bn=some g∨_) _
  go_must (have hd1:=(hg.block bd (by simp only[World.size_alloc];omega) (by simpa using HD.out.ne)).trans HD.out.doc)
  have hc1:w1.cell? ⟨bd,0,none⟩=some (.slice (some ⟨bn,0,none⟩) rn.length cap):=Za hd1 0
  have hf1:=Zd hd1 0
  go_must (have hq1:=(hg.block w.heap.size (by simp only[World.size_alloc];omega) (by simp;omega)).trans HQ.out)
  have hc2:w1.cell? ⟨w.heap.size,0,none⟩=some (.int .i64 0):=Za hq1 0
  have hc3:w1.cell? ⟨w.heap.size,1,none⟩=some (.int .i64 0):=Za hq1 1
  have hf2:=Zd hq1 0
  have hf3:=Zd hq1 1
  have hne:¬ bd=w.heap.size:=by omega
  have HG:Hid _:=hg
  have HO:Hid _:=ho
  have HN:Hid _:=hgn
  clear hd1 hq1 hg ho hgn)
 refine bodyPost_ret (v:=.tuple #[.int .i64 s.length,.agg #[.int .i64 0,.int .i64 0]]) (by simp[results,Tryz.results73,go_sem, *]) rfl ?_
 have hk0:Zb F w w1:=(((Zb.refl F w).alloc _).alloc _).trans (Zb.grown HG.out (fun k e=>by cases e;exact .inl (.inl HD.out.Fn.1)))
 refine⟨rfl,?_,?_⟩
 · exact((hk0.setCell (p:=⟨bd,0,none⟩) (.inl HD.out.Fd.1) _).setCell (p:=⟨w.heap.size,0,none⟩) (.inr (Nat.le_refl _)) _).setCell (p:=⟨w.heap.size,1,none⟩) (.inr (Nat.le_refl _)) _
 · refine⟨g,cap',rn++[⟨false,.slice none 0 0,.slice none 0 0,-1⟩],rv,?_⟩
   have ho:w1.ownsRow 0 119 4 (.slice (some ⟨g,0,none⟩) (rn.length+1) cap') (rn.length+1) (rn.flatMap RN.cells++RN.cells ⟨false,.slice none 0 0,.slice none 0 0,-1⟩):=by rw[hlen];exact HO.out
   have hp:=HD.out.pushed (B:=w.heap.size+1) (x:=Z5) (by simp only[World.size_alloc];omega) HG.out ho (by rcases HN.out with e|e;exact .inl (by cases e;rfl);exact .inr (by simpa using e))
    ⟨rfl,rfl,World.ownsRow_nil _ _ _ _,World.ownsRow_nil _ _ _ _,fun b e=>(by cases e),fun b e=>(by cases e)⟩
   rw[hlen] at hp
   have hk3:Zb (fun b=>b=w.heap.size) (w1.setCell ⟨bd,0,none⟩ (.slice (some ⟨g,0,none⟩) (s.length+1) cap')) _ :=
    ((Zb.refl (fun b=>b=w.heap.size) _).setCell (p:=⟨w.heap.size,0,none⟩) (.inl rfl) (.int .i64 0)).setCell (p:=⟨w.heap.size,1,none⟩) (.inl rfl) (.int .i64 0)
   refine(hp.keeps hk3 ?_).wider ?_
   · intro b hb e
     rcases hb with hb|hb
     · omega
     · omega
   · intro b hb
     rcases hb with hb|hb
     · exact .inl hb.1
     · exact .inr (by omega)
end
end
section
open Go.RowKit
def ZS (b:Int):Int × Int × Int :=
 if b<128 then (0,0,0) else if 194≤b∧b≤223 then (1,128,191) else if b=224 then (2,160,191) else if b=237 then (2,128,159)
 else if 225≤b∧b≤239 then (2,128,191) else if b=240 then (3,144,191) else if 241≤b∧b≤243 then (3,128,191) else if b=244 then (3,128,143) else (-1,0,0)
theorem ret3 {a b c a' b' c':Int} {k l m:IntKind} (h:a=a'∧b=b'∧c=c'):Ending.returned (.tuple #[.int k a,.int l b,.int m c])=.returned (.tuple #[.int k a',.int l b',.int m c']):=by
 obtain⟨rfl,rfl,rfl⟩:=h;rfl
theorem more_any (b:Int) (w:World) :
 Calls Tryz.prog 165 #[.int .u8 b] w fun e w'=>e=.returned (.tuple #[.int .i64 (ZS b).1,.int .u8 (ZS b).2.1,.int .u8 (ZS b).2.2])∧w'=w:=by
 go_enter Tryz.func165,Tryz.ntmps165
 go_wp2
 all_goals
  go_ret3
  refine⟨ret3 ?_,rfl⟩
  try simp only[beq_iff_eq,beq_eq_false_iff_ne,ne_eq] at *
  simp only[ZS]
  (repeat' split) <;> first|exact⟨rfl,rfl,rfl⟩|(exfalso;omega)
def Zt (t:ByteArray) (i:Nat):Int:=if h:i < t.size then ((t[i]'h).toNat:Int) else 0
def Yk (t:ByteArray) (lo hi:Int):Nat→Bool
 | 0=>true
 | k+1=>Yk t lo hi k && decide ((if k=0 then lo else 128)≤Zt t (k+1)∧Zt t (k+1)≤(if k=0 then hi else 191))
def Zu (t:ByteArray):Nat :=
 let m:=ZS (Zt t 0)
 if m.1<0∨(t.size:Int)<m.1+1 then 0 else if Yk t m.2.1 m.2.2 m.1.toNat then m.1.toNat+1 else 0
def YP:Nat→ByteArray→Option (List ByteArray)
 | 0,t=>if t.size=0 then some [] else none
 | k+1,t=>if t.size=0 then some [] else if Zu t=0 then none else (YP k (t.extract (Zu t) t.size)).map (t.extract 0 (Zu t)::·)
def Zr (t:ByteArray):Option (List ByteArray):=YP t.size t
theorem ZbK (t:ByteArray):Zu t≤t.size:=by
 unfold Zu
 simp only[]
 split
 · omega
 · split <;> omega
theorem Zfe (j:Nat):∀ (k:Nat) (t:ByteArray),t.size≤j→t.size≤k→YP j t=YP k t:=by
 induction j with
 | zero =>
   intro k t hj hk
   have h0:t.size=0:=by omega
   cases k <;> simp[YP,h0]
 | succ j ih =>
   intro k t hj hk
   by_cases h0:t.size=0
   · cases k <;> simp[YP,h0]
   · obtain⟨k',rfl⟩:∃ k',k=k'+1:=⟨k - 1,by omega⟩
     simp only[YP,h0,if_false]
     by_cases hw:Zu t=0
     · simp[hw]
     · simp only[hw,if_false]
       rw[ih k' _ (by rw[ByteArray.size_extract];omega) (by rw[ByteArray.size_extract];omega)]
theorem Zfd (k:Nat) (t:ByteArray) (h:t.size≤k):YP k t=YP t.size t:=Zfe k _ t h (Nat.le_refl _)
theorem YY (t:ByteArray):Zr t=if t.size=0 then some [] else if Zu t=0 then none else (Zr (t.extract (Zu t) t.size)).map (t.extract 0 (Zu t)::·):=by
 unfold Zr
 by_cases h0:t.size=0
 · rw[h0];simp[YP,h0]
 · obtain⟨m,hm⟩:∃ m,t.size=m+1:=⟨t.size - 1,by omega⟩
   rw[if_neg h0]
   conv=>lhs;rw[hm]
   simp only[YP,h0,if_false]
   by_cases hw:Zu t=0
   · simp[hw]
   · simp only[hw,if_false]
     rw[Zfd m _ (by rw[ByteArray.size_extract];omega)]
theorem ZcB (t:ByteArray) (k:Nat) (h:k < t.size):((t[k]).toNat:Int)=Zt t k:=by
 simp[Zt,h]
theorem Tryz.info9:(Tryz.prog.info? 9).map (fun i=>(i.zero,i.size,i.bytes))=some (some (.string ByteArray.empty),1,16):=by kernel_rfl
def ZeX (s:ByteArray) (w:World) (e:Ending) (w':World):Prop :=
 Below w.heap.size w w'∧((Zr s=none∧e=.returned (.tuple #[.slice none 0 0,.bool false])) ∨
  ∃ l v,Zr s=some l∧l.length≤s.size∧e=.returned (.tuple #[v,.bool true])∧w'.ownsRow w.heap.size 9 1 v l.length (ZF l))
theorem ZdH (b:Int) {n lo hi:Int} (h:ZS b=(n,lo,hi)) (w:World) :
 Calls Tryz.prog 165 #[.int .u8 b] w fun e w'=>e=.returned (.tuple #[.int .i64 n,.int .u8 lo,.int .u8 hi])∧w'=w:=by
 have:=more_any b w
 rw[h] at this
 exact this
theorem ZdG (b:Int):-1≤(ZS b).1∧(ZS b).1≤3:=by
 unfold ZS
 (repeat' split) <;> decide
def sizeV:Value→Nat
 | .string t=>t.size
 | _=>0
theorem ZbL {t:ByteArray} {N:Nat} {lo hi:Int} (hm:ZS (Zt t 0)=((N:Int),lo,hi)) (hsz:N+1≤t.size):Zu t=if Yk t lo hi N then N+1 else 0:=by
 unfold Zu
 rw[hm]
 simp only[Int.toNat_natCast]
 rw[if_neg (by omega)]
theorem ZfY {t:ByteArray} {n lo hi:Int} (hm:ZS (Zt t 0)=(n,lo,hi)) (h:n < 0∨(t.size:Int) < n+1):Zu t=0:=by
 unfold Zu
 rw[hm]
 simp only[]
 rw[if_pos h]
theorem Zbm {s t:ByteArray} {l:List ByteArray} (h:Zr s=(Zr t).map (l++·)) (ht:¬ t.size=0) (hw:Zu t=0):Zr s=none:=by
 rw[h,YY,if_neg ht,if_pos hw];rfl
theorem Zfh {s t:ByteArray} {l:List ByteArray} (h:Zr s=(Zr t).map (l++·)) (ht:t.size=0):Zr s=some l:=by
 rw[h,YY,if_pos ht];simp
theorem Zfg {s t:ByteArray} {l:List ByteArray} {N:Nat} (h:Zr s=(Zr t).map (l++·)) (ht:¬ t.size=0) (hw:Zu t=N+1) :
 Zr s=(Zr (t.extract (N+1) t.size)).map ((l++[t.extract 0 (N+1)])++·):=by
 rw[h,YY,if_neg ht,hw,if_neg (by omega),Option.map_map]
 congr 1
 funext x
 simp
theorem ZgU {t:ByteArray} {lo hi:Int} {N:Nat} (h:Yk t lo hi N=true):∀ k,k≤N→Yk t lo hi k=true:=by
 induction N with
 | zero=>intro k hk;obtain rfl:k=0:=by omega
         exact h
 | succ N ih =>
   intro k hk
   have h2:Yk t lo hi N=true:=by
    simp only[Yk,Bool.and_eq_true] at h
    exact h.1
   by_cases e:k=N+1
   · subst e;exact h
   · exact ih h2 k (by omega)
theorem ZdP {t:ByteArray} {lo hi L H:Int} {k N:Nat} (hk:k < N) (hL:L=if k=0 then lo else 128) (hH:H=if k=0 then hi else 191) (hb:¬ (L≤Zt t (k+1)∧Zt t (k+1)≤H)):Yk t lo hi N=false:=by
 cases h:Yk t lo hi N with
 | false=>rfl
 | true =>
   have:=ZgU h (k+1) hk
   simp only[Yk,Bool.and_eq_true,decide_eq_true_eq] at this
   rw[hL,hH] at hb
   exact absurd this.2 hb
theorem ZgV {t:ByteArray} {lo hi L H:Int} {k:Nat} (h:Yk t lo hi k=true) (hL:L=if k=0 then lo else 128) (hH:H=if k=0 then hi else 191) (hb:L≤Zt t (k+1)∧Zt t (k+1)≤H):Yk t lo hi (k+1)=true:=by
 rw[hL,hH] at hb
 simp only[Yk,Bool.and_eq_true,decide_eq_true_eq]
 exact⟨h,hb⟩
theorem ZcH (s:ByteArray) (w:World) (hs:s.size < lots):Calls Tryz.prog 115 #[.string s] w (ZeX s w):=by
 obtain⟨i0,hi,hz0,hz1,hz2⟩:=info_parts Tryz.info9
 unfold lots at hs
 go_enter Tryz.func115,Tryz.ntmps115
 go_wp2
 go_loopw [0,4] (fun a b wr=>∃ (t:ByteArray) (l:List ByteArray),a=.string t∧wr.ownsRow w.heap.size 9 1 b l.length (ZF l)∧Below w.heap.size w wr∧l.length+t.size≤s.size∧Zr s=(Zr t).map (l++·)) (fun a _ _=>sizeV a)
 case atStart=>exact⟨s,[],rfl,World.ownsRow_nil _ _ _ _,Below.refl _ _,by simp,by simp⟩
 case round =>
  obtain⟨t,l,rfl,hrow,hb,hlen,hch⟩:=hrel
  have HC:Hid _:=hch
  clear hch
  by_cases ht:t.size=0
  · go_wp2
    go_ret2
    exact⟨hb,.inr ⟨l,_,Zfh HC.out ht,by omega,rfl,hrow⟩⟩
  · have ht0:0<t.size:=by omega
    have hb0:=ZcB t 0 ht0
    obtain⟨n,lo,hiB,hm⟩:∃ n lo hiB,ZS (Zt t 0)=(n,lo,hiB):=⟨_,_,_,rfl⟩
    have hle:=ZdG (Zt t 0)
    rw[hm] at hle
    have hn1:-1≤n:=hle.1
    have hn3:n≤3:=hle.2
    have HM:Hid _:=hm
    clear hm hle
    by_cases hbad:n<0∨(t.size:Int)<n+1
    · have HBAD:Hid _:=hbad
      rcases hbad with h1|h1
      all_goals
       go_wp2_with (go_at_call 165;refine(ZdH _ HM.out _).mono ?_;rintro e w' ⟨rfl,rfl⟩)
       go_ret2
       exact⟨hb,.inl ⟨Zbm HC.out ht (ZfY HM.out HBAD.out),rfl⟩⟩
    · obtain⟨N,rfl⟩:=Int.eq_ofNat_of_zero_le (show 0≤n by omega)
      have hN3:N≤3:=by omega
      have hNt:N+1≤t.size:=by omega
      have hg1:¬ (N:Int)<0:=by omega
      have hg2:¬ (t.size:Int)<(N:Int)+1:=by omega
      clear hbad
      go_wp2_with (go_at_call 165;refine(ZdH _ HM.out _).mono ?_;rintro e w' ⟨rfl,rfl⟩)
      go_loop [6,7,8] (fun a b c=>∃ (k:Nat) (L H:Int),k≤N∧a=.int .u8 L∧b=.int .u8 H∧c=.int .i64 ((k:Int)+1)∧L=(if k=0 then lo else 128)∧H=(if k=0 then hiB else 191)∧Yk t lo hiB k=true) (fun _ _ c=>N+1 - (intOf c).toNat)
      case atStart=>exact⟨0,lo,hiB,Nat.zero_le _,rfl,rfl,rfl,rfl,rfl,rfl⟩
      case round =>
       obtain⟨k,L,H,hkN,rfl,rfl,rfl,hL,hH,hok⟩:=hrel
       have HL:Hid _:=hL
       have HH:Hid _:=hH
       have HK:Hid _:=hok
       clear hL hH hok
       by_cases hlt:k<N
       · have hkt:k+1<t.size:=by omega
         have hbk:=ZcB t (k+1) hkt
         have hidx:((k:Int)+1).toNat=k+1:=by omega
         have hc1:(k:Int)+1≤(N:Int):=by omega
         by_cases hb1:Zt t (k+1)<L
         · go_wp2
           go_ret2
           exact⟨hb,.inl ⟨Zbm HC.out ht (by rw[ZbL HM.out hNt,if_neg (by rw[ZdP hlt HL.out HH.out (by omega)];decide)]),rfl⟩⟩
         · by_cases hb2:H<Zt t (k+1)
           · go_wp2
             go_ret2
             exact⟨hb,.inl ⟨Zbm HC.out ht (by rw[ZbL HM.out hNt,if_neg (by rw[ZdP hlt HL.out HH.out (by omega)];decide)]),rfl⟩⟩
           · go_wp2
             go_round
             case rel=>exact⟨k+1,128,191,by omega,rfl,rfl,by go_num,by simp,by simp,ZgV HK.out HL.out HH.out (by omega)⟩
             case measure=>simp[intOf];omega
       · obtain rfl:k=N:=by omega
         have hext:Hid (t.extract 0 (k+1)=t.extract 0 (k+1)):=rfl
         have hk1:((k:Int)+1).toNat=k+1:=by omega
         go_wp2_with (
          at_builtin
          refine wpList_append_own _ rfl (.tmp 45) (.tmp 50) 107 rfl w.heap.size 9 i0 (.string ByteArray.empty) 1 16 Tryz.underlying107 hi hz0 hz1 hz2 rfl (by decide) u4 l.length _ rfl (hrow.alloc _) ⟨w'.heap.size,0,none⟩ 1 1 [.string (t.extract 0 (k+1))] rfl rfl (cell_one_new _ _ _) (by simp[Value.oneCell']) (by unfold maxLen;omega) (by omega) (by have:=hb.size;simp;omega) ?_
          intro v1 w1 ho1 hg1 _
          have hb1:Below w.heap.size w w1:=(hb.alloc hb.size _).grown hg1 (by have:=hb.size;simp;omega) (fun k e=>(hrow.lt k e).1)
          clear hg1)
         have hw1:Zu t=k+1:=by rw[ZbL HM.out hNt,if_pos HK.out]
         refine⟨⟨_,l++[t.extract 0 (k+1)],rfl,by simpa[ZF] using ho1,hb1,?_,Zfg HC.out ht hw1⟩,?_⟩
         · rw[ByteArray.size_extract];simp;omega
         · simp only[sizeV,ByteArray.size_extract];omega
end
section
open Go.RowKit
theorem Zbl (s:ByteArray) (w:World) (hs:s.size < lots) (h:Zr s=none):Calls Tryz.prog 115 #[.string s] w fun e w'=>e=.returned (.tuple #[.slice none 0 0,.bool false])∧Below w.heap.size w w':=by
 refine(ZcH s w hs).mono ?_
 rintro e w' ⟨hb,⟨_,rfl⟩|⟨l,v,hl,_⟩⟩
 · exact⟨rfl,hb⟩
 · rw[h] at hl;cases hl
theorem XJ (s:ByteArray) (w:World) (hs:s.size < lots) (l:List ByteArray) (h:Zr s=some l):Calls Tryz.prog 115 #[.string s] w fun e w'=>∃ v,e=.returned (.tuple #[v,.bool true])∧w'.ownsRow w.heap.size 9 1 v l.length (ZF l)∧Below w.heap.size w w':=by
 refine(ZcH s w hs).mono ?_
 rintro e w' ⟨hb,⟨hn,_⟩|⟨l',v,hl,_,rfl,hrow⟩⟩
 · rw[h] at hn;cases hn
 · rw[h] at hl;cases hl
   exact⟨v,rfl,hrow,hb⟩
theorem Ji {w:World} {B:Nat} {e:TypeId} {z:Nat} {v:Value} {n:Nat} {xs:List Value} (h:w.ownsRow B e z v n xs):w.ownsRow 0 e z v n xs:=by
 refine⟨h.1,?_⟩
 rcases h.2 with h|⟨g,cap,cur,hv,_,r⟩
 · exact .inl h
 · exact .inr ⟨g,cap,cur,hv,Nat.zero_le _,r⟩
theorem Zo {w:World} {B:Nat} {e:TypeId} {z:Nat} {v:Value} {n:Nat} {xs:List Value} (h:w.ownsRow B e z v n xs):∃ a cap,v=.slice a n cap:=by
 rcases h.2 with ⟨hv,hn⟩|⟨g,cap,cur,hv,_⟩
 · subst hn;exact⟨_,_,hv⟩
 · exact⟨_,_,hv⟩
section
variable {w:World} {F:Nat→Prop} {bd bn cap:Nat} {rn:List RN} {rv:Value} {s:List Nd} {rs:List Sp}
theorem rtext_no (hD:Zf w F bd bn cap rn rv s rs) (t:ByteArray) (ht:t.size < lots) (h:Zr t=none) :
 Calls Tryz.prog 74 #[.pointer (some ⟨bd,0,none⟩),.string t] w fun e w'=>e=.returned (.tuple #[.int .i64 0,.agg #[.int .i64 0,.int .i64 6]])∧Below w.heap.size w w':=by
 clear hD
 have HT:Hid _:=ht
 have HC:Hid _:=h
 clear ht h
 go_enter Tryz.func74,Tryz.ntmps74
 go_wp2_with (first
  | (go_at_call 115
     refine(Zbl t _ HT.out HC.out).mono ?_
     rintro e w1 ⟨rfl,hb⟩
     have hq:w1.heap[w.heap.size]?=some (.cells #[.int .i64 0,.int .i64 0] 32 (0,0)):=(hb.block w.heap.size (by simp)).trans (heap_alloc_new w _)
     have hz:w.heap.size<w1.heap.size:=Zc hq
     have hc2:w1.cell? ⟨w.heap.size,0,none⟩=some (.int .i64 0):=Za hq 0
     have hc3:w1.cell? ⟨w.heap.size,1,none⟩=some (.int .i64 0):=Za hq 1
     have hf2:=Zd hq 0
     have hf3:=Zd hq 1
     have HB:Hid (Below w.heap.size w w1):=((Below.refl _ w).alloc (Nat.le_refl _) _).trans (hb.mono (by simp))
     clear hq hb)
  | (go_at_call 48;refine(ZK _ _ _).mono ?_;rintro e w' ⟨rfl,rfl⟩))
 refine bodyPost_ret (v:=.tuple #[.int .i64 0,.agg #[.int .i64 0,.int .i64 6]]) (by simp[results,Tryz.results74,go_sem, *]) rfl ?_
 refine⟨rfl,?_⟩
 have hh:=HB.out
 have hsz:=hh.size
 go_grown
theorem ZhO (hD:Zf w F bd bn cap rn rv s rs) (t:ByteArray) (ht:t.size < lots) (l:List ByteArray) (h:Zr t=some l) (h30:30 < l.length) :
 Calls Tryz.prog 74 #[.pointer (some ⟨bd,0,none⟩),.string t] w fun e w'=>e=.returned (.tuple #[.int .i64 0,.agg #[.int .i64 0,.int .i64 6]])∧Below w.heap.size w w':=by
 clear hD
 have HT:Hid _:=ht
 have HC:Hid _:=h
 clear ht h
 have h30':(30:Int)<l.length:=by omega
 go_enter Tryz.func74,Tryz.ntmps74
 go_wp2_with (first
  | (go_at_call 115
     refine(XJ t _ HT.out l HC.out).mono ?_
     rintro e w1 ⟨v,rfl,hrow,hb⟩
     obtain⟨a,c,rfl⟩:=Zo hrow
     clear hrow
     have hq:w1.heap[w.heap.size]?=some (.cells #[.int .i64 0,.int .i64 0] 32 (0,0)):=(hb.block w.heap.size (by simp)).trans (heap_alloc_new w _)
     have hz:w.heap.size<w1.heap.size:=Zc hq
     have hc2:w1.cell? ⟨w.heap.size,0,none⟩=some (.int .i64 0):=Za hq 0
     have hc3:w1.cell? ⟨w.heap.size,1,none⟩=some (.int .i64 0):=Za hq 1
     have hf2:=Zd hq 0
     have hf3:=Zd hq 1
     have HB:Hid (Below w.heap.size w w1):=((Below.refl _ w).alloc (Nat.le_refl _) _).trans (hb.mono (by simp))
     clear hq hb)
  | (go_at_call 48;refine(ZK _ _ _).mono ?_;rintro e w' ⟨rfl,rfl⟩))
 refine bodyPost_ret (v:=.tuple #[.int .i64 0,.agg #[.int .i64 0,.int .i64 6]]) (by simp[results,Tryz.results74,go_sem, *]) rfl ?_
 refine⟨rfl,?_⟩
 have hh:=HB.out
 have hsz:=hh.size
 go_grown
theorem ZhN (hD:Zf w F bd bn cap rn rv s rs) (t:ByteArray) (ht:t.size < lots) (l:List ByteArray) (h:Zr t=some l) (h30:l.length≤30) (h40:40≤s.length) :
 Calls Tryz.prog 74 #[.pointer (some ⟨bd,0,none⟩),.string t] w fun e w'=>e=.returned (.tuple #[.int .i64 0,.agg #[.int .i64 0,.int .i64 7]])∧Below w.heap.size w w':=by
 have HT:Hid _:=ht
 have HC:Hid _:=h
 have HD:Hid _:=hD
 have hl:=hD.lt.1
 clear ht h hD
 have h30':¬ (30:Int)<l.length:=by omega
 have h40':(40:Int)≤s.length:=by omega
 go_enter Tryz.func74,Tryz.ntmps74
 go_wp2_with (first
  | (go_at_call 115
     refine(XJ t _ HT.out l HC.out).mono ?_
     rintro e w1 ⟨v,rfl,hrow,hb⟩
     obtain⟨a,c,rfl⟩:=Zo hrow
     clear hrow
     have hq:w1.heap[w.heap.size]?=some (.cells #[.int .i64 0,.int .i64 0] 32 (0,0)):=(hb.block w.heap.size (by simp)).trans (heap_alloc_new w _)
     have hz:w.heap.size<w1.heap.size:=Zc hq
     have hc2:w1.cell? ⟨w.heap.size,0,none⟩=some (.int .i64 0):=Za hq 0
     have hc3:w1.cell? ⟨w.heap.size,1,none⟩=some (.int .i64 0):=Za hq 1
     have hf2:=Zd hq 0
     have hf3:=Zd hq 1
     have hh:Below w.heap.size w w1:=((Below.refl _ w).alloc (Nat.le_refl _) _).trans (hb.mono (by simp))
     have h0:=(HD.out.below hh).nodesCell
     have HB:Hid (Below w.heap.size w w1):=hh
     clear hq hb hh)
  | (go_at_call 48;refine(ZK _ _ _).mono ?_;rintro e w' ⟨rfl,rfl⟩))
 refine bodyPost_ret (v:=.tuple #[.int .i64 0,.agg #[.int .i64 0,.int .i64 7]]) (by simp[results,Tryz.results74,go_sem, *]) rfl ?_
 refine⟨rfl,?_⟩
 have hh:=HB.out
 have hsz:=hh.size
 go_grown
theorem ZhP (hD:Zf w F bd bn cap rn rv s rs) (t:ByteArray) (ht:t.size < lots) (l:List ByteArray) (h:Zr t=some l) (h30:l.length≤30) (h40:s.length < 40) :
 Calls Tryz.prog 74 #[.pointer (some ⟨bd,0,none⟩),.string t] w fun e w'=>e=.returned (.tuple #[.int .i64 s.length,.agg #[.int .i64 0,.int .i64 0]])∧Zb F w w'∧RDoc w' (fun b=>F b∨w.heap.size≤b) bd (s++[⟨true,l,[],-1⟩]) rs:=by
 obtain⟨i0,hi,hz0,hz1,hz2⟩:=info_parts Tryz.info119
 have HT:Hid _:=ht
 have HC:Hid _:=h
 have HD:Hid _:=hD
 have hlen:=hD.len
 have hlt:=hD.lt
 have hl:=hD.lt.1
 clear ht h hD
 have h30':¬ (30:Int)<l.length:=by omega
 have h40':¬ (40:Int)≤s.length:=by omega
 have hneq:¬ bd=w.heap.size:=by omega
 go_enter Tryz.func74,Tryz.ntmps74
 go_wp2_with (first
  | (go_at_call 115
     refine(XJ t _ HT.out l HC.out).mono ?_
     rintro e w1 ⟨v,rfl,hrow,hb⟩
     obtain⟨a,c,rfl⟩:=Zo hrow
     have hq:w1.heap[w.heap.size]?=some (.cells #[.int .i64 0,.int .i64 0] 32 (0,0)):=(hb.block w.heap.size (by simp)).trans (heap_alloc_new w _)
     have hz:w.heap.size<w1.heap.size:=Zc hq
     have hh:Below w.heap.size w w1:=((Below.refl _ w).alloc (Nat.le_refl _) _).trans (hb.mono (by simp))
     have hl1:bd<w1.heap.size:=Nat.lt_of_lt_of_le hl hh.size
     have h0:=(HD.out.below hh).nodesCell
     have HB:Hid (Below w.heap.size w w1):=hh
     have HQ:Hid (w1.heap[w.heap.size]?=some (.cells #[.int .i64 0,.int .i64 0] 32 (0,0))):=hq
     go_must (have HR:Hid (w1.ownsRow (w.heap.size+1) 9 1 (.slice a l.length c) l.length (ZF l)):=by rw[World.size_alloc] at hrow;exact hrow)
     go_must (have HD2:Hid (Zf (w1.alloc (.cells #[.bool true,.slice a l.length c,.slice none 0 0,.int .i64 (-1)] 119)) (fun b=>F b∧b<w.heap.size) bd bn cap rn rv s rs) :=
      HD.out.narrow.below (hh.alloc hh.size _))
     clear hq hb hh hrow)
  | (at_builtin
     refine wpList_append_lies _ rfl (.tmp 32) (.tmp 35) 120 rfl 0 119 i0 _ 4 64 Tryz.underlying120 hi hz0 hz1 hz2 rfl (by decide) (.slice (some ⟨bn,0,none⟩) s.length cap) s.length _ rfl (by have:=HD2.out.nodes;rw[hlen] at this;exact this) ⟨w1.heap.size,0,none⟩ 1 1 [.bool true,.slice a l.length c,.slice none 0 0,.int .i64 (-1)] rfl rfl (World.news_of_block (heap_alloc_new w1 _)) (by simp[Value.oneCell']) (by decide) (by unfold maxLen;omega) (by omega) (Nat.zero_le _) (w1.heap.size+1) (by simp) ?_
     intro g cap' w2 ho (hg:World.grownBy _ w2 (some bn)) (hgn:some bn=some g∨_) _
     have hd1:=(hg.block bd (by simp only[World.size_alloc];omega) (by simpa using HD2.out.ne)).trans HD2.out.doc
     have hc1:w2.cell? ⟨bd,0,none⟩=some (.slice (some ⟨bn,0,none⟩) rn.length cap):=Za hd1 0
     have hf1:=Zd hd1 0
     have hq1:=(hg.block w.heap.size (by simp only[World.size_alloc];omega) (by simp;omega)).trans ((Below.heap_alloc _ _ _ hz).trans HQ.out)
     have hc2:w2.cell? ⟨w.heap.size,0,none⟩=some (.int .i64 0):=Za hq1 0
     have hc3:w2.cell? ⟨w.heap.size,1,none⟩=some (.int .i64 0):=Za hq1 1
     have hf2:=Zd hq1 0
     have hf3:=Zd hq1 1
     have HG:Hid _:=hg
     have HO:Hid (w2.ownsRow 0 119 4 (.slice (some ⟨g,0,none⟩) (s.length+1) cap') (s.length+1) (rn.flatMap RN.cells++[.bool true,.slice a l.length c,.slice none 0 0,.int .i64 (-1)])):=ho
     have HN:Hid _:=hgn
     clear hd1 hq1 hg ho hgn))
 refine bodyPost_ret (v:=.tuple #[.int .i64 s.length,.agg #[.int .i64 0,.int .i64 0]]) (by simp[results,Tryz.results74,go_sem, *]) rfl ?_
 have hk0:Zb F w w2:=((Zb.of_below (F:=F) HB.out).alloc _).trans (Zb.grown HG.out (fun k e=>by cases e;exact .inl (.inl HD.out.Fn)))
 refine⟨rfl,?_,?_⟩
 · exact((hk0.setCell (p:=⟨bd,0,none⟩) (.inl HD.out.Fd) _).setCell (p:=⟨w.heap.size,0,none⟩) (.inr (Nat.le_refl _)) _).setCell (p:=⟨w.heap.size,1,none⟩) (.inr (Nat.le_refl _)) _
 · refine⟨g,cap',rn++[⟨true,.slice a l.length c,.slice none 0 0,-1⟩],rv,?_⟩
   have ho:w2.ownsRow 0 119 4 (.slice (some ⟨g,0,none⟩) (rn.length+1) cap') (rn.length+1) (rn.flatMap RN.cells++RN.cells ⟨true,.slice a l.length c,.slice none 0 0,-1⟩):=by rw[hlen];exact HO.out
   have hcr:=HR.out
   have hcb:∀ b,(Value.slice a l.length c).ownBlock=some b→w.heap.size+1≤b:=fun b e=>(hcr.lt b e).1
   have hp:=HD2.out.pushed (B:=w.heap.size+1) (x:=⟨true,l,[],-1⟩) (by simp only[World.size_alloc];omega) HG.out ho (by rcases HN.out with e|e;exact .inl (by cases e;rfl);exact .inr (by simpa using e))
    ⟨rfl,rfl,Ji (hcr.alloc _),World.ownsRow_nil _ _ _ _,fun b e=>⟨.inr (hcb b e),by have:=hcb b e;omega,by have:=hcb b e;omega,fun e2=>by have:=hcb b e;have:=(HD.out.ranges.lt b e2).2;omega⟩,fun b e=>(by cases e)⟩
   rw[hlen] at hp
   have hk3:Zb (fun b=>b=w.heap.size) (w2.setCell ⟨bd,0,none⟩ (.slice (some ⟨g,0,none⟩) (s.length+1) cap')) _ :=
    ((Zb.refl (fun b=>b=w.heap.size) _).setCell (p:=⟨w.heap.size,0,none⟩) (.inl rfl) (.int .i64 0)).setCell (p:=⟨w.heap.size,1,none⟩) (.inl rfl) (.int .i64 0)
   refine(hp.keeps hk3 ?_).wider ?_
   · intro b hb e
     rcases hb with hb|hb
     · omega
     · omega
   · intro b hb
     rcases hb with hb|hb
     · exact .inl hb.1
     · exact .inr (by omega)
end
end
end Go.Proofs.YtabogkonklplcaaGreatDoor
