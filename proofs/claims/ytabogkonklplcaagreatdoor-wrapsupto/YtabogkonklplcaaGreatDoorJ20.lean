import Derived.Test.YtabogkonklplcaaGreatDoorJ18
import Derived.Deep.DeepFit
import Derived.Test.YtabogkonklplcaaGreatDoorJ08
import Derived.Test.YtabogkonklplcaaGreatDoorJ12
import Derived.Test.YtabogkonklplcaaGreatDoorJ09
import Derived.Deep.RegionLaw
import Derived.Deep.Cut
import Derived.Deep.CutRange
import Derived.Test.YtabogkonklplcaaGreatDoorJ16
import Derived.Test.YtabogkonklplcaaGreatDoorJ11
import Derived.Laws.IdiomCopy
import Derived.WalkSmall
namespace Go.Proofs.YtabogkonklplcaaGreatDoor
set_option linter.unusedSimpArgs false
set_option linter.unusedVariables false
set_option maxRecDepth 20000
set_option maxHeartbeats 8000000
section
open Go.RowKit Go.Lib
abbrev Je (n:Int):Value:=.iface 249 (.agg #[.int .i64 n])
def YE (m:Nat) (s:ByteArray) (l:List ByteArray):Prop:=Zr s=some l∧l.length≤m
abbrev Takes (s:ByteArray) (l:List ByteArray):Prop:=YE 30 s l
def ZeY (m:Nat) (s:ByteArray) (w:World) (e:Ending) (w':World):Prop :=
 Below w.heap.size w w'∧((∃ l,YE m s l∧e=.returned .nilIface)∨((∀ l,¬ YE m s l)∧∃ n,e=.returned (Je n)))
theorem Zil {m:Nat} {s:ByteArray} {l:List ByteArray} {p:Nat} (hc:Zr s=(Zr (s.extract p s.size)).map (l++·)) (hp:¬ p < s.size) (hl:l.length≤m):YE m s l:=by
 rw[Zfc s p (by omega)] at hc
 exact⟨by rw[hc];simp,hl⟩
theorem Zim {m:Nat} {s:ByteArray} {l:List ByteArray} {p:Nat} (hc:Zr s=(Zr (s.extract p s.size)).map (l++·)) (hp:p < s.size) (hl:l.length=m):∀ l',¬ YE m s l':=by
 rintro l' ⟨h1,h2⟩
 by_cases hd:Utf8.decode s p=(65533,1)
 · rw[ZcF s p hp hd] at hc
   rw[hc] at h1;cases h1
 · rw[ZcG s p hp hd] at hc
   rw[hc] at h1
   simp only[Option.map_map,Option.map_eq_some_iff] at h1
   obtain⟨m',_,h3⟩:=h1
   subst h3
   simp at h2
   omega
theorem Zik {m:Nat} {s:ByteArray} {l:List ByteArray} {p:Nat} (hc:Zr s=(Zr (s.extract p s.size)).map (l++·)) (hp:p < s.size) (hd:Utf8.decode s p=(65533,1)):∀ l',¬ YE m s l':=by
 rintro l' ⟨h1,h2⟩
 rw[ZcF s p hp hd] at hc
 rw[hc] at h1;cases h1
theorem Zin {s:ByteArray} {l:List ByteArray} {p:Nat} (hc:Zr s=(Zr (s.extract p s.size)).map (l++·)) (hp:p < s.size) (hd:Utf8.decode s p≠(65533,1)) :
 Zr s=(Zr (s.extract (p+(Utf8.decode s p).2) s.size)).map ((l++[s.extract p (p+(Utf8.decode s p).2)])++·):=by
 rw[hc,ZcG s p hp hd,Option.map_map]
 congr 1
 funext x
 simp
def CheckInv (m:Nat) (s:ByteArray) (w:World) (c:Value) (wr:World):Prop :=
 ∃ (p:Nat) (l:List ByteArray),c=.int .i64 l.length∧wr.heap[w.heap.size]?=some (.stringIter s p)∧Below w.heap.size w wr∧p≤s.size∧l.length≤m∧Zr s=(Zr (s.extract p s.size)).map (l++·)
theorem brk_eq (s:ByteArray) (p:Nat) (h:p < s.size):(decide (((Utf8.decode s p).1:Int)=65533) && decide ((Lib.decodeGo (s.extract p s.size)).2=1))=decide (Utf8.decode s p=(65533,1)):=by
 rw[decodeGo_tail s p h]
 generalize Utf8.decode s p=d
 obtain⟨a,b⟩:=d
 simp only[Prod.mk.injEq]
 by_cases h1:a=65533 <;> by_cases h2:b=1 <;> simp[h1,h2] <;> omega
theorem XK (m:Nat) (hm:m≤30) (s:ByteArray) (w:World) (hs:s.size < lots) (hT:Tabs w) :
 Calls Tryz.prog 144 #[.string s,.int .i64 m] w (ZeY m s w):=by
 have HT:=hid hT
 clear hT
 go_enter Tryz.func144,Tryz.ntmps144
 go_wp2
 go_loopw [5] (fun c wr=>CheckInv m s w c wr) (fun _ wr=>s.size - wr.iterPos w.heap.size)
 case atStart =>
  exact⟨0,[],rfl,heap_alloc_new w _,(Below.refl _ w).alloc (Nat.le_refl _) _,Nat.zero_le _,Nat.zero_le _,by simp⟩
 case round =>
  obtain⟨p,l,rfl,hi,hb,hp,hl,hc⟩:=hrel
  have HC:=hid hc
  clear hc
  by_cases hlt:p<s.size
  · have hnx:=fun ty=>Lib.run_next_any_at (P:=Tryz.prog) _ w.heap.size s p ty hi hlt
    have B:=hid (brk_eq s p hlt)
    have W:=hid (ZeO s p hlt)
    have F:=hid (Zim (m:=m) HC.out hlt)
    have D:=hid (Zik (m:=m) HC.out hlt)
    have N:=hid (Zin HC.out hlt)
    obtain⟨R,K,hRK⟩:∃ R K,Utf8.decode s p=(R,K):=⟨_,_,rfl⟩
    rw[hRK] at hnx B W D N
    simp only at hnx B W
    clear hRK HC
    have hi2:=iterAt_heap _ _ s p (p+K) hi
    have hb2:=below_iterAt hb (Nat.le_refl _) s (p+K)
    have hpI:(p:Int)≤s.size:=by omega
    by_cases h30:l.length=m
    · have h30I:(m:Int)≤l.length:=by omega
      have h30N:m≤l.length:=by omega
      go_wp2
      go_ret
      exact⟨hb2,.inr ⟨F.out h30,_,rfl⟩⟩
    · have h30I:¬ (m:Int)≤l.length:=by omega
      have h30N:¬ m≤l.length:=by omega
      have hT2:=HT.out.below hb2
      have C:=hid (Ze6 (R:Int) (s.extract p s.size) _ hT2)
      rw[B.out] at C
      clear hT2 B F
      by_cases hd:(R,K)=(65533,1)
      · rw[decide_eq_true hd] at C
        have D2:=hid (D.out hd)
        clear N W D hd
        go_wp2_with (go_at_call 171;refine C.out.mono ?_;rintro e w3 ⟨rfl,hb3⟩)
        go_ret
        exact⟨hb2.trans (hb3.mono hb2.size),.inr ⟨D2.out,_,rfl⟩⟩
      · rw[decide_eq_false hd] at C
        have N2:=hid (N.out hd)
        have W2:=hid (W.out hd)
        clear N W D hd
        go_wp2_with (go_at_call 171;refine C.out.mono ?_;rintro e w3 ⟨rfl,hb3⟩)
        have hw:=W2.out
        have hi3:=(hb3.block w.heap.size (Zc hi2)).trans hi2
        go_roundw
        case rel =>
         refine⟨p+K,l++[s.extract p (p+K)],?_,hi3,hb2.trans (hb3.mono hb2.size),hw.2,by simp;omega,N2.out⟩
         first | simp|go_num
        case measure =>
         rw[iterPos_of hi3,iterPos_of hi]
         omega
  · have hnx:=fun ty=>Lib.run_next_end_at (P:=Tryz.prog) _ w.heap.size s p ty hi hlt
    go_wp2
    go_ret
    exact⟨hb,.inl ⟨l,Zil HC.out hlt hl,rfl⟩⟩
end
section
open Go.RowKit
theorem ZaV {w:World} {b:Nat} {o v:Value} {t:TypeId} (h:w.heap[b]?=some (.cells #[o] t (0,0))):(w.setCell ⟨b,0,none⟩ v).heap[b]?=some (.cells #[v] t (0,0)):=by
 rw[heap_setCell_same w b 0 _ _ _ h];simp
theorem ZhS {w:World} {b:Nat} {o0 o1 v0 v1:Value} {t:TypeId} (h:w.heap[b]?=some (.cells #[o0,o1] t (0,0))):((w.setCell ⟨b,0,none⟩ v0).setCell ⟨b,1,none⟩ v1).heap[b]?=some (.cells #[v0,v1] t (0,0)):=by
 have h1:=heap_setCell_same w b 0 _ _ v0 h
 rw[heap_setCell_same _ b 1 _ _ _ h1];simp
theorem as_R' (n:Int) (y:Value) (hy1:y.oneCell'=true) (tb:Nat) (o0 o1:Value) (w:World) (hg:Glob w) (hq:w.heap[tb]?=some (.cells #[o0,o1] 145 (0,0))) :
 Calls Tryz.prog 91 #[.iface 145 (.agg #[.int .i64 n,y]),.iface 146 (.pointer (some ⟨tb,0,none⟩))] w fun e w'=>e=.returned (.bool true) ∧
  Zb (fun b=>b=tb) w w'∧w'.heap[tb]?=some (.cells #[.int .i64 n,y] 145 (0,0)):=by
 refine(as_R n y hy1 tb o0 o1 w hg hq).mono ?_
 rintro e w' ⟨rfl,rfl⟩
 have htl:=Zc hq
 refine⟨rfl,?_,ZhS (o0:=o0) (o1:=o1) ?_⟩
 · exact((((((Zb.refl (fun b=>b=tb) w).alloc _).alloc _).alloc _).alloc _).setCell (p:=⟨tb,0,none⟩) (.inl rfl) _).setCell (p:=⟨tb,1,none⟩) (.inl rfl) _
 · rw[Below.heap_alloc _ _ _ (by simp only[World.size_alloc];omega),Below.heap_alloc _ _ _ (by simp only[World.size_alloc];omega),Below.heap_alloc _ _ _ (by simp only[World.size_alloc];omega),Below.heap_alloc _ _ _ htl];exact hq
theorem as_P' (n y:Int) (tb:Nat) (o0:Value) (w:World) (hg:Glob w) (hq:w.heap[tb]?=some (.cells #[o0] 30 (0,0))) :
 Calls Tryz.prog 91 #[.iface 145 (.agg #[.int .i64 n,.iface 30 (.int .i64 y)]),.iface 147 (.pointer (some ⟨tb,0,none⟩))] w fun e w'=>e=.returned (.bool true) ∧
  Zb (fun b=>b=tb) w w'∧w'.heap[tb]?=some (.cells #[.int .i64 y] 30 (0,0)):=by
 refine(as_P n y 0 tb o0 w hg hq).mono ?_
 rintro e w' ⟨rfl,rfl⟩
 have htl:=Zc hq
 refine⟨rfl,?_,ZaV (o:=o0) ?_⟩
 · exact((((((Zb.refl (fun b=>b=tb) w).alloc _).alloc _).alloc _).alloc _).alloc _).setCell (p:=⟨tb,0,none⟩) (.inl rfl) _
 · rw[Below.heap_alloc _ _ _ (by simp only[World.size_alloc];omega),Below.heap_alloc _ _ _ (by simp only[World.size_alloc];omega),Below.heap_alloc _ _ _ (by simp only[World.size_alloc];omega),Below.heap_alloc _ _ _ (by simp only[World.size_alloc];omega),Below.heap_alloc _ _ _ htl];exact hq
theorem as_F' (n at_:Int) (tb:Nat) (o0:Value) (w:World) (hg:Glob w) (hq:w.heap[tb]?=some (.cells #[o0] 30 (0,0))) :
 Calls Tryz.prog 91 #[.iface 145 (.agg #[.int .i64 n,.iface 249 (.agg #[.int .i64 at_])]),.iface 147 (.pointer (some ⟨tb,0,none⟩))] w fun e w'=>e=.returned (.bool true) ∧
  Zb (fun b=>b=tb) w w'∧w'.heap[tb]?=some (.cells #[.int .i64 6] 30 (0,0)):=by
 refine(as_F n 0 at_ tb o0 w hg hq).mono ?_
 rintro e w' ⟨rfl,rfl⟩
 have htl:=Zc hq
 refine⟨rfl,?_,ZaV (o:=o0) ?_⟩
 · exact(((((((Zb.refl (fun b=>b=tb) w).alloc _).alloc _).alloc _).alloc _).alloc _).alloc _).setCell (p:=⟨tb,0,none⟩) (.inl rfl) _
 · rw[Below.heap_alloc _ _ _ (by simp only[World.size_alloc];omega),Below.heap_alloc _ _ _ (by simp only[World.size_alloc];omega),Below.heap_alloc _ _ _ (by simp only[World.size_alloc];omega),Below.heap_alloc _ _ _ (by simp only[World.size_alloc];omega),Below.heap_alloc _ _ _ (by simp only[World.size_alloc];omega),Below.heap_alloc _ _ _ htl];exact hq
theorem Glob.keeps {F:Nat→Prop} {w w':World} (h:Glob w) (hk:Zb F w w') (hF:¬ F 0):Glob w':=hk.cell h hF
theorem Glob.below {w w':World} (h:Glob w) (hk:Below w.heap.size w w'):Glob w':=h.keeps (Zb.of_below (F:=fun _=>False) hk) (fun e=>e)
theorem ZbH (n y:Int) (v:Value) (hv:v.oneCell'=true) (w:World) (hg:Glob w)
 (h0:∀ (tb:Nat) (o0:Value) (w1:World),Glob w1→w1.heap[tb]?=some (.cells #[o0] 141 (0,0)) →
   Calls Tryz.prog 91 #[.iface 145 (.agg #[.int .i64 n,v]),.iface 143 (.pointer (some ⟨tb,0,none⟩))] w1 fun e w'=>e=.returned (.bool false)∧Below w1.heap.size w1 w')
 (h2:∀ (tb:Nat) (o0:Value) (w1:World),Glob w1→w1.heap[tb]?=some (.cells #[o0] 30 (0,0)) →
   Calls Tryz.prog 91 #[.iface 145 (.agg #[.int .i64 n,v]),.iface 147 (.pointer (some ⟨tb,0,none⟩))] w1 fun e w'=>e=.returned (.bool true) ∧
    Zb (fun b=>b=tb) w1 w'∧w'.heap[tb]?=some (.cells #[.int .i64 y] 30 (0,0))) :
 Calls Tryz.prog 46 #[.iface 145 (.agg #[.int .i64 n,v])] w fun e w'=>e=.returned (.iface 32 (.agg #[.int .i64 n,.int .i64 y]))∧Below w.heap.size w w':=by
 have hgl:=hg.lt
 have hB0:Below w.heap.size w (w.alloc (.cells #[.int .i64 0] 141)):=(Below.refl _ w).alloc (Nat.le_refl _) _
 have C0:=hid (h0 w.heap.size (.int .i64 0) (w.alloc (.cells #[.int .i64 0] 141)) (hg.below hB0) (heap_alloc_new w _))
 have HG:=hid hg
 have HB0:=hid hB0
 have H2:=hid h2
 have HV:=hid hv
 clear hg hB0 h2 h0 hv
 go_enter Tryz.func46,Tryz.ntmps46
 go_wp2_with (first
  | (go_at_call 91
     refine C0.out.mono ?_
     clear C0
     rintro e w0 ⟨rfl,hb0⟩
     have hB:Below w.heap.size w ((w0.alloc (.cells #[.int .i64 0,.nilIface] 145)).alloc (.cells #[.int .i64 0] 30)):=((HB0.out.trans (hb0.mono (by simp))).alloc (by have:=hb0.size;simp at this;omega) _).alloc (by have:=hb0.size;simp at this;simp;omega) _
     have C1:=hid (as_R' n v HV.out w0.heap.size (.int .i64 0) .nilIface ((w0.alloc (.cells #[.int .i64 0,.nilIface] 145)).alloc (.cells #[.int .i64 0] 30)) (HG.out.below hB) (by rw[Below.heap_alloc _ _ _ (by simp),heap_alloc_new]))
     have HB:=hid hB
     have Z0:=hid hb0.size
     clear hB hb0 HB0)
  | (go_at_call 91
     refine C1.out.mono ?_
     clear C1
     rintro e w1 ⟨rfl,hk1,hq1⟩
     have hwhy:w1.heap[w0.heap.size+1]?=some (.cells #[.int .i64 0] 30 (0,0)):=by
      rw[hk1.block (w0.heap.size+1) (by simp only[World.size_alloc];omega) (by omega)]
      have:=heap_alloc_new (w0.alloc (.cells #[.int .i64 0,.nilIface] 145)) (.cells #[.int .i64 0] 30)
      simpa using this
     have HGL:=hid ((HG.out.below HB.out).keeps hk1 (by have:=Z0.out;simp at this;omega))
     have C2:=hid (H2.out (w0.heap.size+1) (.int .i64 0) w1 HGL.out hwhy)
     have HK1:=hid hk1
     have HQ1:=hid hq1
     clear hk1 hq1 hwhy)
  | (go_at_call 91
     refine C2.out.mono ?_
     clear C2
     rintro e w2 ⟨rfl,hk2,hq2⟩
     have hr2:w2.heap[w0.heap.size]?=some (.cells #[.int .i64 n,v] 145 (0,0)):=by rw[hk2.block w0.heap.size (Zc HQ1.out) (by omega)];exact HQ1.out
     have hc0:w2.cell? ⟨w0.heap.size,0,none⟩=some (.int .i64 n):=Za hr2 0
     have hc1:w2.cell? ⟨w0.heap.size+1,0,none⟩=some (.int .i64 y):=Za hq2 0
     have HK2:=hid hk2
     clear hk2 hq2 hr2))
 go_ret
 refine⟨rfl,?_⟩
 have z0:=Z0.out
 simp only[World.size_alloc] at z0
 have k1:Zb (fun b=>w.heap.size≤b) w w1:=((Zb.of_below (F:=fun b=>w.heap.size≤b) HB.out)).trans (HK1.out.mono (fun k _ e=>.inl (by omega)))
 have k2:Zb (fun b=>w.heap.size≤b) w w2:=k1.trans (HK2.out.mono (fun k _ e=>.inl (by omega)))
 exact⟨k2.os,k2.tape,k2.output,k2.size,fun k hk=>k2.block k hk (by omega)⟩
theorem fault_P (n y:Int) (w:World) (hg:Glob w) :
 Calls Tryz.prog 46 #[.iface 145 (.agg #[.int .i64 n,.iface 30 (.int .i64 y)])] w fun e w'=>e=.returned (.iface 32 (.agg #[.int .i64 n,.int .i64 y]))∧Below w.heap.size w w' :=
 ZbH n y _ rfl w hg (fun tb o0 w1 h1 h2=>as_MP n y tb o0 w1 h1 h2) (fun tb o0 w1 h1 h2=>as_P' n y tb o0 w1 h1 h2)
theorem fault_F (n at_:Int) (w:World) (hg:Glob w) :
 Calls Tryz.prog 46 #[.iface 145 (.agg #[.int .i64 n,.iface 249 (.agg #[.int .i64 at_])])] w fun e w'=>e=.returned (.iface 32 (.agg #[.int .i64 n,.int .i64 6]))∧Below w.heap.size w w' :=
 ZbH n 6 _ rfl w hg (fun tb o0 w1 h1 h2=>as_MF n at_ tb o0 w1 h1 h2) (fun tb o0 w1 h1 h2=>as_F' n at_ tb o0 w1 h1 h2)
end
section
open Go.RowKit
theorem Tryz.info164:(Tryz.prog.info? 164).map (fun i=>(i.zero,i.size,i.bytes))=some (some (.agg #[.int .i64 0,.bool false,.slice none 0 0,.string ⟨#[]⟩]),4,56):=by kernel_rfl
abbrev ZO (n y:Int):Value:=.iface 145 (.agg #[.int .i64 n,.iface 30 (.int .i64 y)])
theorem tnew_any (w:World) :
 Calls Tryz.prog 71 #[] w fun e w'=>∃ bf,e=.returned (.pointer (some ⟨bf,0,none⟩))∧Below w.heap.size w w'∧PFor w' (fun b=>w.heap.size≤b) bf [Z5]:=by
 go_enter Tryz.func71,Tryz.ntmps71
 go_wp2
 go_ret
 refine⟨w.heap.size+1,rfl,((Below.refl _ w).alloc (Nat.le_refl _) _).alloc (by simp) _,w.heap.size,1,[⟨-1,false,.slice none 0 0,⟨#[]⟩⟩],?_⟩
 have e1:=heap_alloc_new (w.alloc (.cells #[.int .i64 (-1),.bool false,.slice none 0 0,.string ⟨#[]⟩] 164)) (.cells #[.slice (some ⟨w.heap.size,0,none⟩) 1 1] 167)
 refine⟨by simpa using e1,?_,by simp,by simp,by simp,rfl,?_,?_⟩
 · have:=(World.ownsRow_lit (base:=0) (e:=164) (size:=4) w #[.int .i64 (-1),.bool false,.slice none 0 0,.string ⟨#[]⟩] 1 (Nat.zero_le _) (by decide) rfl).alloc (.cells #[.slice (some ⟨w.heap.size,0,none⟩) 1 1] 167)
   simpa[PN.cells] using this
 · intro i r x h1 h2
   cases i with
   | zero =>
     simp at h1 h2
     subst h1 h2
     exact⟨rfl,rfl,rfl,World.ownsRow_nil _ _ _ _,fun b e=>(by cases e)⟩
   | succ i=>simp at h1
 · intro i j r r' hij h1 h2 b e
   cases i with
   | zero=>simp at h1;subst h1;cases e
   | succ i=>simp at h1
section
variable {w:World} {F:Nat→Prop} {bf bn cap:Nat} {pn:List PN} {s:List Nd}
theorem Jd (hD:Zh w F bf bn cap pn s) (k:Int) (h:isB s k=false) :
 Calls Tryz.prog 87 #[.pointer (some ⟨bf,0,none⟩),.int .i64 k] w fun e w'=>e=.returned (ZO k 1)∧w'=w:=by
 have h0:=hD.nodesCell
 have hk:¬ (0≤k∧k<s.length):=by simpa[isB] using h
 clear hD h
 by_cases h1:k<0
 · go_enter Tryz.func87,Tryz.ntmps87
   go_wp2
   go_ret
   exact⟨rfl,rfl⟩
 · have h2:(s.length:Int)≤k:=by omega
   have h1d:decide (k<0)=false:=decide_eq_false h1
   go_enter Tryz.func87,Tryz.ntmps87
   go_wp2
   go_ret
   exact⟨rfl,rfl⟩
theorem Z4 (hD:Zh w F bf bn cap pn s) (k:Int) (h:isB s k=true) :
 Calls Tryz.prog 87 #[.pointer (some ⟨bf,0,none⟩),.int .i64 k] w fun e w'=>e=.returned .nilIface∧w'=w:=by
 have h0:=hD.nodesCell
 obtain⟨h1,h2⟩:=Y2 h
 have h1d:decide (k<0)=false:=decide_eq_false (by omega)
 have h2d:decide ((s.length:Int)≤k)=false:=decide_eq_false (by omega)
 clear hD h
 go_enter Tryz.func87,Tryz.ntmps87
 go_wp2
 go_ret
 exact⟨rfl,rfl⟩
theorem Zcp (hD:Zh w F bf bn cap pn s) (h40:40≤s.length) (p:Int) (t:Bool) (ch:ByteArray) (q:Int) :
 Calls Tryz.prog 143 #[.pointer (some ⟨bf,0,none⟩),.agg #[.int .i64 p,.bool t,.slice none 0 0,.string ch],.int .i64 q] w fun e w'=>e=.returned (.tuple #[.int .i64 0,ZO q 7])∧Below w.heap.size w w':=by
 have h0:=hD.nodesCell
 have hl:=hD.lt.1
 have h1:(40:Int)≤s.length:=by omega
 clear hD
 go_enter Tryz.func143,Tryz.ntmps143
 go_wp2
 go_ret2
 refine⟨rfl,?_⟩
 go_grown
theorem Zcq (hD:Zh w F bf bn cap pn s) (h40:s.length < 40) (x:Nd) (hp:x.ks=[]) (q:Int) :
 Calls Tryz.prog 143 #[.pointer (some ⟨bf,0,none⟩),.agg #[.int .i64 x.p,.bool x.t,.slice none 0 0,.string (catB x.cs)],.int .i64 q] w fun e w'=>e=.returned (.tuple #[.int .i64 s.length,.nilIface])∧Zb F w w'∧PFor w' (fun b=>F b∨w.heap.size≤b) bf (s++[x]):=by
 obtain⟨i0,hi,hz0,hz1,hz2⟩:=info_parts Tryz.info164
 have h0:=hD.nodesCell
 have hlt:=hD.lt
 have hl:bf<w.heap.size:=hlt.1
 have h1:¬ (40:Int)≤s.length:=by omega
 have hlen:=hD.len
 have HD:=hid hD.narrow
 clear hD
 have HD2:=hid (HD.out.below (w':=((w.alloc (.cells #[.int .i64 x.p,.bool x.t,.slice none 0 0,.string (catB x.cs)] 164)).alloc (.cells #[.int .i64 x.p,.bool x.t,.slice none 0 0,.string (catB x.cs)] 164)).drew) ((((Below.refl _ w).alloc (Nat.le_refl _) _).alloc (by simp) _).drew))
 have HROW:Hid (((w.alloc (.cells #[.int .i64 x.p,.bool x.t,.slice none 0 0,.string (catB x.cs)] 164)).alloc (.cells #[.int .i64 x.p,.bool x.t,.slice none 0 0,.string (catB x.cs)] 164)).drew.ownsRow 0 164 4 (.slice (some ⟨bn,0,none⟩) s.length cap) s.length (pn.flatMap PN.cells)):=by rw[← hlen];exact HD2.out.nodes
 have src:∀ (j:Nat) (u:Value),[Value.int .i64 x.p,.bool x.t,.slice none 0 0,.string (catB x.cs)][j]?=some u→((w.alloc (.cells #[.int .i64 x.p,.bool x.t,.slice none 0 0,.string (catB x.cs)] 164)).alloc (.cells #[.int .i64 x.p,.bool x.t,.slice none 0 0,.string (catB x.cs)] 164)).drew.cell? ((⟨w.heap.size+1,0,none⟩:Addr).add j)=some u:=by
  have:=World.news_of_block (heap_alloc_new (w.alloc (.cells #[.int .i64 x.p,.bool x.t,.slice none 0 0,.string (catB x.cs)] 164)) (.cells #[.int .i64 x.p,.bool x.t,.slice none 0 0,.string (catB x.cs)] 164))
  simpa using this
 have SRC:=hid src
 clear src
 go_enter Tryz.func143,Tryz.ntmps143
 go_wp2
 go_cut [] from 8 to 33 (fun wc=>∃ g cap' pn2,Zh wc (fun b=>(F b∧b<w.heap.size)∨w.heap.size+1≤b) bf g cap' pn2 (s++[x])∧Zb F w wc)
 case first =>
  go_region_law ((refine step_append_lies _ rfl (.tmp 22) (.tmp 24) 165 rfl 0 164 i0 _ 4 56 Tryz.underlying165 hi hz0 hz1 hz2 rfl (by decide) (.slice (some ⟨bn,0,none⟩) s.length cap) s.length _ (by simp[Act.eval,Act.put]) HROW.out ⟨w.heap.size+1,0,none⟩ 1 1 [.int .i64 x.p,.bool x.t,.slice none 0 0,.string (catB x.cs)] (by simp[Act.eval,Act.put]) rfl SRC.out (by simp[Value.oneCell']) (by decide) (by unfold maxLen;omega) (by omega) (Nat.zero_le _) (w.heap.size+1+1) (by simp) ?_
                  intro g cap' w1 ho (hg:World.grownBy _ w1 (some bn)) (hgn:some bn=some g∨_) _
                  have hd1:=(hg.block bf (by simp only[World.size_drew,World.size_alloc];omega) (by simpa using HD2.out.ne)).trans HD2.out.forest
                  have hc1:w1.cell? ⟨bf,0,none⟩=some (.slice (some ⟨bn,0,none⟩) pn.length cap):=Za hd1 0
                  have hf1:=Zd hd1 0
                  have HG:=hid hg
                  have HO:=hid ho
                  have HN:=hid hgn
                  clear hd1 hg ho hgn))
  all_goals
   go_wp2_with fail
   go_meet
   case rel =>
    have ho:w1.ownsRow 0 164 4 (.slice (some ⟨g,0,none⟩) (pn.length+1) cap') (pn.length+1) (pn.flatMap PN.cells++PN.cells ⟨x.p,x.t,.slice none 0 0,catB x.cs⟩):=by rw[hlen];exact HO.out
    have hp2:=HD2.out.pushed (B:=w.heap.size+1) (x:=x) (by simp only[World.size_drew,World.size_alloc];omega) HG.out ho (by rcases HN.out with e|e;exact .inl (by cases e;rfl);exact .inr (by simpa using e)) ⟨rfl,rfl,rfl,rfl,hp⟩
    rw[hlen] at hp2
    have hk0:Zb F w w1:=((((Zb.refl F w).alloc _).alloc _).drew).trans (Zb.grown HG.out (fun k e=>by cases e;exact .inl (.inl HD.out.Fn.1)))
    exact⟨g,cap',_,hp2,hk0.setCell (p:=⟨bf,0,none⟩) (.inl HD.out.Ff.1) _⟩
 case rest =>
  obtain⟨g,cap',pn2,hD2,hk2⟩:=hcut
  have h02:=hD2.nodesCell
  rw[List.length_append] at h02
  have HD3:=hid hD2
  have HK2:=hid hk2
  clear hD2 hk2
  go_wp2
  go_ret2
  refine⟨by simp,HK2.out,g,cap',pn2,HD3.out.wider ?_⟩
  intro b hb
  rcases hb with hb|hb
  · exact .inl hb.1
  · exact .inr (by omega)
end
end
section
open Go.RowKit
def Hold (b:Nat):Prop:=b=0∨b=1∨b=2
def GG (w:World):Prop:=Glob w∧Tabs w
theorem GG.lt {w:World} (h:GG w) {b:Nat} (hb:Hold b):b < w.heap.size:=by
 rcases hb with rfl|rfl|rfl
 · exact World.block_lt_of_cell? w _ h.1
 · exact World.block_lt_of_cell? w _ (h.2.1 0 (by decide))
 · exact World.block_lt_of_cell? w _ (h.2.2 0 (by decide)).1
theorem GG.keeps {F:Nat→Prop} {w w':World} (h:GG w) (hk:Zb F w w') (hF:∀ b,Hold b→¬ F b):GG w' :=
 ⟨hk.cell h.1 (hF _ (.inl rfl)),fun c hc=>hk.cell (h.2.1 c hc) (hF _ (.inr (.inl rfl))),fun i hi=>⟨hk.cell (h.2.2 i hi).1 (hF _ (.inr (.inr rfl))),hk.cell (h.2.2 i hi).2 (hF _ (.inr (.inr rfl)))⟩⟩
theorem GG.below {w w':World} (h:GG w) (hb:Below w.heap.size w w'):GG w':=h.keeps (Zb.of_below (F:=fun _=>False) hb) (fun _ _ e=>e)
def Yb (F:Nat→Prop) (bx bl:Nat) (sv:Value):Nat→Prop:=fun b=>F b∧b≠bx∧b≠bl∧sv.ownBlock≠some b∧¬ Hold b
theorem PFor.keeps {w w':World} {F G:Nat→Prop} {bf:Nat} {s:List Nd} (h:PFor w F bf s) (hk:Zb G w w') (hG:∀ b,F b→¬ G b):PFor w' F bf s:=by
 obtain⟨bn,cap,pn,h⟩:=h
 exact⟨bn,cap,pn,h.keeps hk hG⟩
theorem PFor.wider {w:World} {F G:Nat→Prop} {bf:Nat} {s:List Nd} (h:PFor w F bf s) (hG:∀ b,F b→G b):PFor w G bf s:=by
 obtain⟨bn,cap,pn,h⟩:=h
 exact⟨bn,cap,pn,h.wider hG⟩
theorem PFor.narrow {w:World} {F:Nat→Prop} {bf:Nat} {s:List Nd} (h:PFor w F bf s):PFor w (fun b=>F b∧b < w.heap.size) bf s:=by
 obtain⟨bn,cap,pn,h⟩:=h
 exact⟨bn,cap,pn,h.narrow⟩
theorem PFor.below {w w':World} {F:Nat→Prop} {bf:Nat} {s:List Nd} (h:PFor w F bf s) (hb:Below w.heap.size w w'):PFor w' F bf s :=
 h.keeps (Zb.of_below (F:=fun _=>False) hb) (fun _ _ e=>e)
structure Zk (w:World) (F:Nat→Prop) (bx bf bl:Nat) (sv:Value) (st:St):Prop where
 Fx:F bx
 Hx:¬ Hold bx
 doc:w.heap[bx]?=some (.cells #[ptr bf,ptr bl] 94 (0,0))
 Fl:F bl
 Hl:¬ Hold bl
 ne:bl≠bx
 list:w.heap[bl]?=some (.cells #[ptr bf,sv] 176 (0,0))
 spans:w.ownsRow 0 79 4 sv st.r.length (st.r.flatMap Sp.cells)
 apart:∀ b,sv.ownBlock=some b→F b∧¬ Hold b∧b≠bx∧b≠bl
 nodes:PFor w (Yb F bx bl sv) bf st.n
def Zv (w:World) (F:Nat→Prop) (bx:Nat) (st:St):Prop:=∃ bf bl sv,Zk w F bx bf bl sv st
def PDoc:PDT where
 lies:=Zv
 ok:=fun st=>WF st.n∧st.r=[]
theorem Zv.keeps {w w':World} {F G:Nat→Prop} {b:Nat} {s:St} (h:Zv w F b s) (hk:Zb G w w') (hG:∀ b,F b→¬ G b):Zv w' F b s:=by
 obtain⟨bf,bl,sv,h⟩:=h
 exact⟨bf,bl,sv,h.Fx,h.Hx,by rw[hk.block b (Zc h.doc) (hG b h.Fx)];exact h.doc,h.Fl,h.Hl,h.ne,by rw[hk.block bl (Zc h.list) (hG bl h.Fl)];exact h.list,
  hk.row h.spans (fun b e=>hG b (h.apart b e).1),h.apart,h.nodes.keeps hk (fun b hb=>hG b hb.1)⟩
theorem Zv.wider {w:World} {F G:Nat→Prop} {b:Nat} {s:St} (h:Zv w F b s) (hG:∀ b,F b→G b):Zv w G b s:=by
 obtain⟨bf,bl,sv,h⟩:=h
 exact⟨bf,bl,sv,hG _ h.Fx,h.Hx,h.doc,hG _ h.Fl,h.Hl,h.ne,h.list,h.spans,fun b e=>⟨hG _ (h.apart b e).1,(h.apart b e).2⟩,h.nodes.wider (fun b hb=>⟨hG _ hb.1,hb.2⟩)⟩
theorem Zv.narrow {w:World} {F:Nat→Prop} {b:Nat} {s:St} (h:Zv w F b s):Zv w (fun k=>F k∧k < w.heap.size) b s:=by
 obtain⟨bf,bl,sv,h⟩:=h
 exact⟨bf,bl,sv,⟨h.Fx,Zc h.doc⟩,h.Hx,h.doc,⟨h.Fl,Zc h.list⟩,h.Hl,h.ne,h.list,h.spans,fun b e=>⟨⟨(h.apart b e).1,(h.spans.lt b e).2⟩,(h.apart b e).2⟩,h.nodes.narrow.wider (fun b hb=>⟨⟨hb.1.1,hb.2⟩,hb.1.2⟩)⟩
theorem Zhz (bf:Nat) (w:World):Calls Tryz.prog 72 #[ptr bf] w fun e w'=>e=.returned (ptr w.heap.size)∧w'=w.alloc (.cells #[ptr bf,.slice none 0 0] 176):=by
 go_enter Tryz.func72,Tryz.ntmps72
 go_wp2
 go_ret
 exact⟨rfl,rfl⟩
theorem mnew_ok:NewOk PDoc GG:=by
 intro w hg
 have C:=hid (tnew_any w)
 have C2:=hid Zhz
 go_enter Tryz.func40,Tryz.ntmps40
 go_wp2_with first
  | (go_at_call 71;refine C.out.mono ?_;rintro e w1 ⟨bf,rfl,hb,hf⟩)
  | (go_at_call 72;refine(C2.out _ _).mono ?_;rintro e w2 ⟨rfl,rfl⟩)
 go_ret
 have hsz:=hb.size
 have hb1:Below w1.heap.size w1 (w1.alloc (.cells #[ptr bf,.slice none 0 0] 176)):=(Below.refl _ w1).alloc (Nat.le_refl _) _
 have hb2:Below w1.heap.size w1 ((w1.alloc (.cells #[ptr bf,.slice none 0 0] 176)).alloc (.cells #[ptr bf,ptr w1.heap.size] 94)):=hb1.alloc (by simp) _
 have hn:∀ b,w.heap.size≤b→¬ Hold b:=fun b hle h=>by have:=hg.lt h;omega
 have hd:=heap_alloc_new (w1.alloc (.cells #[ptr bf,.slice none 0 0] 176)) (.cells #[ptr bf,ptr w1.heap.size] 94)
 refine⟨w1.heap.size+1,by simp,hb.trans (hb2.mono hsz),bf,w1.heap.size,.slice none 0 0,⟨by omega,hn _ (by omega),by simpa using hd,hsz,hn _ hsz,by omega,?_,World.ownsRow_nil _ _ _ _,(fun b e=>by cases e),?_⟩⟩
 · rw[Below.heap_alloc _ _ _ (by simp),heap_alloc_new]
 · exact(hf.narrow.below hb2).wider (fun b hx=>⟨hx.1,by have:=hx.2;omega,by have:=hx.2;omega,(fun e=>by cases e),hn b hx.1⟩)
def ZY (F:Nat→Prop) (w:World) (bx:Nat) (s':St) (v:Value) (e:Ending) (w':World):Prop:=e=.returned v∧Zb F w w'∧Zv w' (grow F w) bx s'
def ZV (F:Nat→Prop) (w:World) (bf:Nat) (s':List Nd) (v:Value) (e:Ending) (w':World):Prop:=e=.returned v∧Zb F w w'∧PFor w' (grow F w) bf s'
def Z2 (v:Value) (a y:Int):Prop:=∀ w,Glob w→Calls Tryz.prog 46 #[v] w fun e w'=>e=.returned (errV a y)∧Below w.heap.size w w'
theorem X7 (a:Int):Z2 .nilIface a 0:=fun w hg=>(JP w).mono fun e w' ⟨h1,h2⟩=>⟨by rw [h1];simp [errV],h2⟩
theorem Yi (n y:Int) (hy:y≠0):Z2 (ZO n y) n y:=fun w hg=>(fault_P n y w hg).mono fun e w' ⟨h1,h2⟩=>⟨by rw [h1];simp [errV,hy],h2⟩
theorem ZcR (n at_:Int):Z2 (.iface 145 (.agg #[.int .i64 n,Je at_])) n 6:=fun w hg=>(fault_F n at_ w hg).mono fun e w' ⟨h1,h2⟩=>⟨by rw [h1];simp [errV],h2⟩
theorem Xc {w w1 w2:World} {F:Nat→Prop} {bx bf bl:Nat} {sv:Value} {s s':List Nd} {rs:List Sp} (hg:GG w) (hD:Zk w F bx bf bl sv ⟨s,rs⟩) (hk:Zb (Yb F bx bl sv) w w1) (hf:PFor w1 (grow (Yb F bx bl sv) w) bf s') (hb:Below w1.heap.size w1 w2) :
 Zb F w w2∧Zk w2 (grow F w) bx bf bl sv ⟨s',rs⟩:=by
 have hk2:Zb (Yb F bx bl sv) w w2:=hk.trans (Zb.of_below hb)
 have hlx:=Zc hD.doc
 have hll:=Zc hD.list
 refine⟨hk2.mono (fun k _ h=>h.1),⟨.inl hD.Fx,hD.Hx,?_,.inl hD.Fl,hD.Hl,hD.ne,?_,hk2.row hD.spans (fun b e h=>h.2.2.2.1 e),fun b e=>⟨.inl (hD.apart b e).1,(hD.apart b e).2⟩,(hf.below hb).wider (fun b h=>?_)⟩⟩
 · rw[hk2.block bx hlx (fun h=>h.2.1 rfl)];exact hD.doc
 · rw[hk2.block bl hll (fun h=>h.2.2.1 rfl)];exact hD.list
 · rcases h with h|h
   · exact⟨.inl h.1,h.2⟩
   · exact⟨.inr h,by omega,by omega,fun e=>by have:=(hD.spans.lt b e).2;omega,fun hh=>by have:=hg.lt hh;omega⟩
theorem Xt {w w1:World} {F:Nat→Prop} {bx bl:Nat} {sv:Value} (hg:GG w) (hk:Zb (Yb F bx bl sv) w w1):Glob w1:=(hg.keeps hk (fun b hb h=>h.2.2.2.2 hb)).1
theorem ZdE {w:World} {F:Nat→Prop} {bx:Nat} {s s':List Nd} {rs:List Sp} (hg:GG w) (hP:Zv w F bx ⟨s,rs⟩) {n v:Value} {a y:Int} (hE:Z2 v a y)
 (hT:∀ (F':Nat→Prop) (bf:Nat),PFor w F' bf s→Calls Tryz.prog 92 #[ptr bf] w (ZV F' w bf s' (.tuple #[n,v]))) :
 Calls Tryz.prog 52 #[ptr bx] w (ZY F w bx ⟨s',rs⟩ (.tuple #[n,errV a y])):=by
 obtain⟨bf,bl,sv,hD⟩:=hP
 have C:=hid (hT _ _ hD.nodes)
 have c0:w.cell? ⟨bx,0,none⟩=some (ptr bf):=Za hD.doc 0
 have AF:=hid (fun w1 w2=>Xc (w1:=w1) (w2:=w2) (s':=s') hg hD)
 have AG:=hid (fun w1=>Xt (w1:=w1) (F:=F) (bx:=bx) (bl:=bl) (sv:=sv) hg)
 have E:=hid hE
 clear hD hT hg hE
 go_enter Tryz.func52,Tryz.ntmps52
 go_wp2_with first
  | (go_at_call 92;refine C.out.mono ?_;rintro e w1 ⟨rfl,hk,hf⟩;have E1:=hid (E.out w1 (AG.out w1 hk));have A1:=hid (fun w2=>AF.out w1 w2 hk hf);clear hk hf)
  | (go_at_call 46;refine E1.out.mono ?_;rintro e w2 ⟨rfl,hb⟩)
 go_ret2
 exact⟨rfl,(A1.out _ hb).1,_,_,_,(A1.out _ hb).2⟩
theorem ZdO {w:World} {F:Nat→Prop} {bx:Nat} {s s':List Nd} {rs:List Sp} (hg:GG w) (hP:Zv w F bx ⟨s,rs⟩) {n v:Value} {a y:Int} (t:ByteArray) (hE:Z2 v a y)
 (hT:∀ (F':Nat→Prop) (bf:Nat),PFor w F' bf s→Calls Tryz.prog 93 #[ptr bf,.string t] w (ZV F' w bf s' (.tuple #[n,v]))) :
 Calls Tryz.prog 53 #[ptr bx,.string t] w (ZY F w bx ⟨s',rs⟩ (.tuple #[n,errV a y])):=by
 obtain⟨bf,bl,sv,hD⟩:=hP
 have C:=hid (hT _ _ hD.nodes)
 have c0:w.cell? ⟨bx,0,none⟩=some (ptr bf):=Za hD.doc 0
 have AF:=hid (fun w1 w2=>Xc (w1:=w1) (w2:=w2) (s':=s') hg hD)
 have AG:=hid (fun w1=>Xt (w1:=w1) (F:=F) (bx:=bx) (bl:=bl) (sv:=sv) hg)
 have E:=hid hE
 clear hD hT hg hE
 go_enter Tryz.func53,Tryz.ntmps53
 go_wp2_with first
  | (go_at_call 93;refine C.out.mono ?_;rintro e w1 ⟨rfl,hk,hf⟩;have E1:=hid (E.out w1 (AG.out w1 hk));have A1:=hid (fun w2=>AF.out w1 w2 hk hf);clear hk hf)
  | (go_at_call 46;refine E1.out.mono ?_;rintro e w2 ⟨rfl,hb⟩)
 go_ret2
 exact⟨rfl,(A1.out _ hb).1,_,_,_,(A1.out _ hb).2⟩
def TMove (Mv:World→Value→Prop) (F:Nat→Prop) (w:World) (bf:Nat) (s':List Nd) (e:Ending) (w':World):Prop:=∃ mv,e=.returned (.tuple #[mv,.nilIface])∧Zb F w w'∧PFor w' (grow F w) bf s'∧Mv w' mv
theorem Zk.below {w w':World} {F:Nat→Prop} {bx bf bl:Nat} {sv:Value} {st:St} (h:Zk w F bx bf bl sv st) (hb:Below w.heap.size w w'):Zk w' F bx bf bl sv st :=
 ⟨h.Fx,h.Hx,by rw[hb.block bx (Zc h.doc)];exact h.doc,h.Fl,h.Hl,h.ne,by rw[hb.block bl (Zc h.list)];exact h.list,(Zb.of_below (F:=fun _=>False) hb).row h.spans (fun _ _ e=>e),h.apart,h.nodes.below hb⟩
theorem Zgo {w:World} {bl bf:Nat} {sv:Value} (h:w.heap[bl]?=some (.cells #[ptr bf,sv] 176 (0,0))) (hr:w.ownsRow 0 79 4 sv 0 []) (mv:Value) :
 Calls Tryz.prog 110 #[ptr bl,mv] w fun e w'=>e=.returned (.tuple #[])∧Below w.heap.size w w':=by
 obtain⟨a,c,rfl⟩:=Zo hr
 have c1:w.cell? ⟨bl,1,none⟩=some (.slice a 0 c):=Za h 1
 have hl:=Zc h
 clear h hr
 go_enter Tryz.func110,Tryz.ntmps110
 go_wp2
 go_rounds 1
 go_end0
 exact⟨rfl,by go_grown⟩
theorem ZaI {w:World} (hg:Glob w) (bx:Nat) (mv:Value) {t:TypeId} {u:Value} {a y:Int} (hE:Z2 (.iface t u) a y) :
 Calls Tryz.prog 64 #[ptr bx,mv,.iface t u] w fun e w'=>e=.returned (errV a y)∧Below w.heap.size w w':=by
 have C:=hid (hE w hg)
 clear hE hg
 go_enter Tryz.func64,Tryz.ntmps64
 go_wp2_with (go_at_call 46;refine C.out.mono ?_;rintro e w1 ⟨rfl,hb⟩)
 go_ret
 exact⟨rfl,hb⟩
theorem Zgw {w:World} {F:Nat→Prop} {bx:Nat} {s s':List Nd} {rs:List Sp} (hg:GG w) (hP:Zv w F bx ⟨s,rs⟩) {t:TypeId} {u:Value} {a y:Int} (A B C:Int) (hE:Z2 (.iface t u) a y)
 (hT:∀ (F':Nat→Prop) (bf:Nat),PFor w F' bf s→Calls Tryz.prog 94 #[ptr bf,.int .i64 A,.int .i64 B,.int .i64 C] w (ZV F' w bf s' (.tuple #[.nilFunc,.iface t u]))) :
 Calls Tryz.prog 54 #[ptr bx,.int .i64 A,.int .i64 B,.int .i64 C] w (ZY F w bx ⟨s',rs⟩ (errV a y)):=by
 obtain⟨bf,bl,sv,hD⟩:=hP
 have C:=hid (hT _ _ hD.nodes)
 have c0:w.cell? ⟨bx,0,none⟩=some (ptr bf):=Za hD.doc 0
 have AF:=hid (fun w1 w2=>Xc (w1:=w1) (w2:=w2) (s':=s') hg hD)
 have AG:=hid (fun w1=>Xt (w1:=w1) (F:=F) (bx:=bx) (bl:=bl) (sv:=sv) hg)
 have E:=hid (fun w1 (h1:Glob w1)=>ZaI h1 bx .nilFunc hE)
 clear hD hT hg hE
 go_enter Tryz.func54,Tryz.ntmps54
 go_wp2_with first
  | (go_at_call 94;refine C.out.mono ?_;rintro e w1 ⟨rfl,hk,hf⟩;have E1:=hid (E.out w1 (AG.out w1 hk));have A1:=hid (fun w2=>AF.out w1 w2 hk hf);clear hk hf)
  | (go_at_call 64;refine E1.out.mono ?_;rintro e w2 ⟨rfl,hb⟩)
 go_ret
 exact⟨rfl,(A1.out _ hb).1,_,_,_,(A1.out _ hb).2⟩
theorem ZdJ {w:World} {F:Nat→Prop} {bx:Nat} {s s':List Nd} {rs:List Sp} (hg:GG w) (hP:Zv w F bx ⟨s,rs⟩) {t:TypeId} {u:Value} {a y:Int} (A:Int) (hE:Z2 (.iface t u) a y)
 (hT:∀ (F':Nat→Prop) (bf:Nat),PFor w F' bf s→Calls Tryz.prog 97 #[ptr bf,.int .i64 A] w (ZV F' w bf s' (.tuple #[.nilFunc,.iface t u]))) :
 Calls Tryz.prog 60 #[ptr bx,.int .i64 A] w (ZY F w bx ⟨s',rs⟩ (errV a y)):=by
 obtain⟨bf,bl,sv,hD⟩:=hP
 have C:=hid (hT _ _ hD.nodes)
 have c0:w.cell? ⟨bx,0,none⟩=some (ptr bf):=Za hD.doc 0
 have AF:=hid (fun w1 w2=>Xc (w1:=w1) (w2:=w2) (s':=s') hg hD)
 have AG:=hid (fun w1=>Xt (w1:=w1) (F:=F) (bx:=bx) (bl:=bl) (sv:=sv) hg)
 have E:=hid (fun w1 (h1:Glob w1)=>ZaI h1 bx .nilFunc hE)
 clear hD hT hg hE
 go_enter Tryz.func60,Tryz.ntmps60
 go_wp2_with first
  | (go_at_call 97;refine C.out.mono ?_;rintro e w1 ⟨rfl,hk,hf⟩;have E1:=hid (E.out w1 (AG.out w1 hk));have A1:=hid (fun w2=>AF.out w1 w2 hk hf);clear hk hf)
  | (go_at_call 64;refine E1.out.mono ?_;rintro e w2 ⟨rfl,hb⟩)
 go_ret
 exact⟨rfl,(A1.out _ hb).1,_,_,_,(A1.out _ hb).2⟩
theorem ZdK {w:World} {F:Nat→Prop} {bx:Nat} {s s':List Nd} {rs:List Sp} (hg:GG w) (hP:Zv w F bx ⟨s,rs⟩) {n v:Value} {a y:Int} (A:Int) (hE:Z2 v a y)
 (hT:∀ (F':Nat→Prop) (bf:Nat),PFor w F' bf s→Calls Tryz.prog 95 #[ptr bf,.int .i64 A] w (ZV F' w bf s' (.tuple #[n,v]))) :
 Calls Tryz.prog 55 #[ptr bx,.int .i64 A] w (ZY F w bx ⟨s',rs⟩ (.tuple #[n,errV a y])):=by
 obtain⟨bf,bl,sv,hD⟩:=hP
 have C:=hid (hT _ _ hD.nodes)
 have c0:w.cell? ⟨bx,0,none⟩=some (ptr bf):=Za hD.doc 0
 have AF:=hid (fun w1 w2=>Xc (w1:=w1) (w2:=w2) (s':=s') hg hD)
 have AG:=hid (fun w1=>Xt (w1:=w1) (F:=F) (bx:=bx) (bl:=bl) (sv:=sv) hg)
 have E:=hid hE
 clear hD hT hg hE
 go_enter Tryz.func55,Tryz.ntmps55
 go_wp2_with first
  | (go_at_call 95;refine C.out.mono ?_;rintro e w1 ⟨rfl,hk,hf⟩;have E1:=hid (E.out w1 (AG.out w1 hk));have A1:=hid (fun w2=>AF.out w1 w2 hk hf);clear hk hf)
  | (go_at_call 46;refine E1.out.mono ?_;rintro e w2 ⟨rfl,hb⟩)
 go_ret2
 exact⟨rfl,(A1.out _ hb).1,_,_,_,(A1.out _ hb).2⟩
end
section
open Go.RowKit
section
variable {w:World} {F:Nat→Prop} {bf:Nat} {s:List Nd}
theorem Ziq (hD:PFor w F bf s) (h40:40≤s.length):Calls Tryz.prog 92 #[ptr bf] w (ZV F w bf s (.tuple #[.int .i64 0,ZO 0 7])):=by
 obtain⟨bn,cap,pn,hD⟩:=hD
 have C:=hid (Zcp hD h40 (-1) false ⟨#[]⟩ 0)
 have HD:=hid hD
 clear hD
 go_enter Tryz.func92,Tryz.ntmps92
 go_wp2_with (go_at_call 143;refine C.out.mono ?_;rintro e w1 ⟨rfl,hb⟩)
 go_ret2
 exact⟨rfl,Zb.of_below hb,bn,cap,pn,(HD.out.below hb).wider (fun b h=>.inl h)⟩
theorem Zir (hD:PFor w F bf s) (h40:s.length < 40):Calls Tryz.prog 92 #[ptr bf] w (ZV F w bf (s++[Z5]) (.tuple #[.int .i64 s.length,.nilIface])):=by
 obtain⟨bn,cap,pn,hD⟩:=hD
 have C:=hid (Zcq hD h40 Z5 rfl 0)
 clear hD
 go_enter Tryz.func92,Tryz.ntmps92
 go_wp2_with (go_at_call 143;refine C.out.mono ?_;rintro e w1 ⟨rfl,hk,hf⟩)
 go_ret2
 exact⟨rfl,hk,hf⟩
theorem Zco (hD:PFor w F bf s) (h40:40≤s.length) (t:ByteArray) (q:Int):Calls Tryz.prog 103 #[ptr bf,.string t,.int .i64 q] w fun e w'=>e=.returned (.tuple #[.int .i64 0,ZO q 7])∧Below w.heap.size w w':=by
 obtain⟨bn,cap,pn,hD⟩:=hD
 have C:=hid (Zcp hD h40 (-1) true t q)
 clear hD
 go_enter Tryz.func103,Tryz.ntmps103
 go_wp2_with (go_at_call 143;refine C.out.mono ?_;rintro e w1 ⟨rfl,hb⟩)
 go_ret2
 exact⟨rfl,hb⟩
theorem Zbh (hD:PFor w F bf s) (h40:s.length < 40) (l:List ByteArray) (q:Int):Calls Tryz.prog 103 #[ptr bf,.string (catB l),.int .i64 q] w (ZV F w bf (s++[⟨true,l,[],-1⟩]) (.tuple #[.int .i64 s.length,.nilIface])):=by
 obtain⟨bn,cap,pn,hD⟩:=hD
 have C:=hid (Zcq hD h40 ⟨true,l,[],-1⟩ rfl q)
 clear hD
 go_enter Tryz.func103,Tryz.ntmps103
 go_wp2_with (go_at_call 143;refine C.out.mono ?_;rintro e w1 ⟨rfl,hk,hf⟩)
 go_ret2
 exact⟨rfl,hk,hf⟩
theorem ZcJ (t:ByteArray) (w:World) (ht:t.size < lots):Calls Tryz.prog 145 #[.string t] w fun e w'=>e=.returned (.string t)∧Below w.heap.size w w':=by
 have C:=hid (Tryz.stringslite_Clone t w (by unfold lots at ht;omega))
 clear ht
 go_enter Tryz.func145,Tryz.ntmps145
 go_wp2_with (go_at_call 172;refine C.out.mono ?_;rintro e w1 ⟨rfl,hb⟩)
 go_ret
 exact⟨rfl,hb⟩
def Zck (F:Nat→Prop) (w:World) (bf:Nat) (s:List Nd) (e:Ending) (w':World):Prop:=∃ n:Int,ZV F w bf s (.tuple #[.int .i64 0,.iface 145 (.agg #[.int .i64 0,Je n])]) e w'
theorem ttext_no (hD:PFor w F bf s) (hT:Tabs w) (t:ByteArray) (ht:t.size < lots) (h:∀ l,¬ Takes t l):Calls Tryz.prog 93 #[ptr bf,.string t] w (Zck F w bf s):=by
 have C:=hid (XK 30 (by decide) t w ht hT)
 have HD:=hid hD
 have HN:=hid h
 clear hD hT ht h
 go_enter Tryz.func93,Tryz.ntmps93
 go_wp2_with (go_at_call 144;refine C.out.mono ?_;rintro e w1 ⟨hb,⟨l,hl,_⟩|⟨_,n,rfl⟩⟩;(first|exact absurd hl (HN.out l)|skip))
 go_ret2
 exact⟨n,rfl,Zb.of_below hb,(HD.out.below hb).wider (fun b h=>.inl h)⟩
theorem ZiL (hD:PFor w F bf s) (hT:Tabs w) (t:ByteArray) (ht:t.size < lots) (l:List ByteArray) (h:Takes t l) (h40:40≤s.length):Calls Tryz.prog 93 #[ptr bf,.string t] w (ZV F w bf s (.tuple #[.int .i64 0,ZO 0 7])):=by
 have C:=hid (XK 30 (by decide) t w ht hT)
 have CL:=hid (fun w1=>ZcJ t w1 ht)
 have HD:=hid hD
 have HN:=hid h
 have H4:=hid h40
 clear hD hT ht h h40
 go_enter Tryz.func93,Tryz.ntmps93
 go_wp2_with first
  | (go_at_call 144;refine C.out.mono ?_;rintro e w1 ⟨hb,⟨l',hl,rfl⟩|⟨hn,_⟩⟩ <;> (first|exact absurd HN.out (hn l)|skip))
  | (go_at_call 145;refine(CL.out _).mono ?_;rintro e w2 ⟨rfl,hb2⟩
     have hB:=hid (hb.trans (hb2.mono hb.size))
     have D2:=hid (HD.out.below hB.out)
     clear hb hb2)
  | (go_at_call 103;refine(Zco D2.out H4.out t 0).mono ?_;rintro e w3 ⟨rfl,hb3⟩)
 go_ret2
 have hb4:=hB.out.trans (hb3.mono hB.out.size)
 exact⟨rfl,Zb.of_below hb4,(HD.out.below hb4).wider (fun b h=>.inl h)⟩
theorem ZiM (hD:PFor w F bf s) (hT:Tabs w) (t:ByteArray) (ht:t.size < lots) (l:List ByteArray) (h:Takes t l) (h40:s.length < 40):Calls Tryz.prog 93 #[ptr bf,.string t] w (ZV F w bf (s++[⟨true,l,[],-1⟩]) (.tuple #[.int .i64 s.length,.nilIface])):=by
 have C:=hid (XK 30 (by decide) t w ht hT)
 have CL:=hid (fun w1=>ZcJ t w1 ht)
 have HD:=hid hD
 have HN:=hid h
 have H4:=hid h40
 have HC:=hid (JH t.size t l (Nat.le_refl _) h.1)
 clear hD hT ht h h40
 go_enter Tryz.func93,Tryz.ntmps93
 go_wp2_with first
  | (go_at_call 144;refine C.out.mono ?_;rintro e w1 ⟨hb,⟨l',hl,rfl⟩|⟨hn,_⟩⟩ <;> (first|exact absurd HN.out (hn l)|skip))
  | (go_at_call 145;refine(CL.out _).mono ?_;rintro e w2 ⟨rfl,hb2⟩
     have hB:=hid (hb.trans (hb2.mono hb.size))
     have D2:=hid (HD.out.below hB.out)
     clear hb hb2)
  | (go_at_call 103;have A1:=Zbh D2.out H4.out l 0;rw[HC.out] at A1;refine A1.mono ?_;clear A1;rintro e w3 ⟨rfl,hk3,hf3⟩)
 go_ret2
 refine⟨rfl,(Zb.of_below hB.out).trans (hk3.mono (fun k _ h=>.inl h)),hf3.wider (fun b h=>?_)⟩
 rcases h with h|h
 · exact .inl h
 · exact .inr (Nat.le_trans hB.out.size h)
end
theorem ZgF {w:World} {F:Nat→Prop} {bx:Nat} {s s':List Nd} {rs:List Sp} (hg:GG w) (hP:Zv w F bx ⟨s,rs⟩) (t:ByteArray)
 (hT:∀ (F':Nat→Prop) (bf:Nat),PFor w F' bf s→Calls Tryz.prog 93 #[ptr bf,.string t] w (Zck F' w bf s')) :
 Calls Tryz.prog 53 #[ptr bx,.string t] w (ZY F w bx ⟨s',rs⟩ (.tuple #[.int .i64 0,errV 0 6])):=by
 obtain⟨bf,bl,sv,hD⟩:=hP
 have C:=hid (hT _ _ hD.nodes)
 have c0:w.cell? ⟨bx,0,none⟩=some (ptr bf):=Za hD.doc 0
 have AF:=hid (fun w1 w2=>Xc (w1:=w1) (w2:=w2) (s':=s') hg hD)
 have AG:=hid (fun w1=>Xt (w1:=w1) (F:=F) (bx:=bx) (bl:=bl) (sv:=sv) hg)
 clear hD hT hg
 go_enter Tryz.func53,Tryz.ntmps53
 go_wp2_with first
  | (go_at_call 93;refine C.out.mono ?_;rintro e w1 ⟨n,rfl,hk,hf⟩;have E1:=hid (ZcR 0 n w1 (AG.out w1 hk));have A1:=hid (fun w2=>AF.out w1 w2 hk hf);clear hk hf)
  | (go_at_call 46;refine E1.out.mono ?_;rintro e w2 ⟨rfl,hb⟩)
 go_ret2
 exact⟨rfl,(A1.out _ hb).1,_,_,_,(A1.out _ hb).2⟩
theorem RDoc.after {w w':World} {F:Nat→Prop} {bd:Nat} {s:List Nd} (h:RDoc w F bd s []) (hb:Below w.heap.size w w'):RDoc w' (grow F w) bd s []:=by
 obtain⟨bn,cap,rn,rv,h⟩:=h
 exact⟨bn,cap,rn,rv,(h.below hb).wider (fun b h=>.inl h)⟩
end
section
open Go.RowKit
theorem Xv {F:Nat→Prop} {a:World} (g:Nat):∀ (vs:List Value) (o:Nat) (w:World),Zb F a w→F g→Zb F a (w.setCells g o vs)
 | [],_,_,h,_=>h
 | v::r,o,w,h,hg=>Xv g r (o+1) _ (h.setCell (p:=⟨g,o,none⟩) (.inl hg) v) hg
theorem Xu (g:Nat) (e:TypeId):∀ (vs:List Value) (o:Nat) (w:World) (cur:Array Value),w.heap[g]?=some (.cells cur e (0,0))→o+vs.length≤cur.size →
 ∃ cur':Array Value,(w.setCells g o vs).heap[g]?=some (.cells cur' e (0,0))∧cur'.size=cur.size∧cur'.toList=cur.toList.take o++vs++cur.toList.drop (o+vs.length)
 | [],o,w,cur,h,hs=>⟨cur,h,rfl,by simp⟩
 | v::r,o,w,cur,h,hs=>by
   simp only[List.length_cons] at hs
   obtain⟨cur',h1,h2,h3⟩:=Xu g e r (o+1) (w.setCell ⟨g,o,none⟩ v) _ (heap_setCell_same w g o cur e v h) (by simp;omega)
   refine⟨cur',h1,by simpa using h2,?_⟩
   rw[h3]
   have ho:o<cur.toList.length:=by simp;omega
   simp only[Array.toList_setIfInBounds,List.length_cons]
   rw[List.take_set,List.drop_set_of_lt (by omega),List.take_succ_eq_append_getElem ho,List.set_append_right _ _ (by simp;omega)]
   simp
   have h5:min o cur.size=o:=by omega
   have h6:o+1+r.length=o+(r.length+1):=by omega
   simp[h5,h6]
theorem ZaT {w:World} {v:Value} {ks:List Nat} (h:w.ownsRow 0 3 1 v ks.length (Zg ks)) (hk:ks≠[]) :
 ∃ g cap cur,v=.slice (some ⟨g,0,none⟩) ks.length cap∧w.heap[g]?=some (.cells cur 3 (0,0))∧ks.length≤cap∧cap≤maxLen∧cur.size=cap∧cur.toList.take ks.length=Zg ks ∧
  (∀ j,j<(ks.map Int.ofNat).length→w.cell? ⟨g,0+j,none⟩=some (.int .i64 ((ks.map Int.ofNat).getD j 0)))∧(∀ j,j<ks.length→w.frozen? ⟨g,0+j,none⟩=false):=by
 obtain⟨h1,h2⟩:=h
 rcases h2 with ⟨_,h2⟩|⟨g,cap,cur,hv,hg,hh,hn,hc,hs,ht⟩
 · exact absurd (List.eq_nil_of_length_eq_zero h2) hk
 · simp only[Nat.mul_one] at ht hs
   refine⟨g,cap,cur,hv,hh,hn,hc,hs,ht,?_,fun j hj=>Zd hh _⟩
   intro j hj
   simp at hj
   rw[Za hh]
   have e:cur[0+j]?=(cur.toList.take ks.length)[j]?:=by rw[Nat.zero_add,List.getElem?_take_of_lt hj,Array.getElem?_toList]
   rw[e,ht]
   simp[Zg,hj,List.getD]
section
variable {w:World} {F:Nat→Prop} {bf bn cap:Nat} {pn:List PN} {s:List Nd}
theorem Zh.newRow (h:Zh w F bf bn cap pn s) {w':World} {i g:Nat} {r:PN} {x:Nd} (hr:pn[i]?=some r) (hx:s[i]?=some x) (hg:r.kv.ownBlock=some g) (hk:Zb (fun b=>b=g) w w') {ks:List Nat}
 (hrow:w'.ownsRow 0 3 1 r.kv ks.length (Zg ks)):Zh w' F bf bn cap pn (s.set i { x with ks:=ks }):=by
 have ho:=h.ok i r x hr hx
 have ha:=ho.apart g hg
 have hi':=(List.getElem?_eq_some_iff.1 hx).1
 refine⟨?_,hk.row h.nodes (fun b e e2=>by cases e;exact ha.2.2 e2.symm),h.Ff,h.Fn,h.ne,by simpa using h.len,?_,h.sep⟩
 · rw[hk.block bf (Zc h.forest) (fun e=>ha.2.1 e.symm)];exact h.forest
 · intro k r1 x1 h1 h2
   rw[List.getElem?_set] at h2
   by_cases hik:i=k
   · subst hik
     rw[if_pos rfl,if_pos hi'] at h2
     cases h2
     rw[hr] at h1
     cases h1
     exact⟨ho.t,ho.p,ho.ch,hrow,ho.apart⟩
   · rw[if_neg hik] at h2
     have o:=h.ok k r1 x1 h1 h2
     refine o.keeps hk (fun b e e2=>?_)
     subst e2
     exact h.sep i k r r1 hik hr h1 _ hg e
end
end
end Go.Proofs.YtabogkonklplcaaGreatDoor
