import Derived.Test.YtabogkonklplcaaGreatDoorH12
import Derived.Test.YtabogkonklplcaaGreatDoorH10
import Derived.WalkSmall
import Derived.LoopTactic
import Derived.Laws.RangeString
import Derived.Laws.RangeAny
import Derived.Shelf.Spec.BytesIndexFunc
import Derived.Deep.DeepFit
namespace Go.Proofs.YtabogkonklplcaaGreatDoor
set_option linter.unusedSimpArgs false
set_option linter.unusedVariables false
set_option maxRecDepth 20000
set_option maxHeartbeats 8000000
section
open Go.RowKit Go.Lib
abbrev Tabs (w:World):Prop:=Lib.Utf8Tabs 1 2 w
theorem Tabs.below {w w':World} (h:Tabs w) (hb:Below w.heap.size w w'):Tabs w':=by
 have key:∀ (p:Addr) (v:Value),w.cell? p=some v→w'.cell? p=some v:=fun p v hv=>by rw[hb.cell (World.block_lt_of_cell? w _ hv)];exact hv
 exact⟨fun c hc=>key _ _ (h.1 c hc),fun i hi=>⟨key _ _ (h.2 i hi).1,key _ _ (h.2 i hi).2⟩⟩
theorem Zfa (c:Int) (u:ByteArray) (w:World) (hT:Tabs w) :
 Calls Tryz.prog 171 #[.int .i32 c,.string u] w fun e w'=>e=.returned (.bool (decide (c=65533) && decide ((Lib.decodeGo u).2=1)))∧Below w.heap.size w w':=by
 have C:=hid (Tryz.utf8_DecodeRuneInString u w hT)
 obtain⟨R,hR⟩:∃ R,(Lib.decodeGo u).1=R:=⟨_,rfl⟩
 obtain⟨K,hK⟩:∃ K,(Lib.decodeGo u).2=K:=⟨_,rfl⟩
 rw[hR,hK] at C
 rw[hK]
 clear hT hR hK
 by_cases hc:c=65533
 · subst hc
   go_enter Tryz.func171,Tryz.ntmps171
   go_wp2_with (go_at_call 191;refine C.out.mono ?_;rintro e w3 ⟨rfl,hb⟩)
   go_ret
   refine⟨?_,hb⟩
   congr 2
   by_cases h1:K=1
   · subst h1;rfl
   · have:¬ (K:Int)=1:=by omega
     simp[h1,this]
 · have hc1:(c != 65533)=true:=by simpa using hc
   go_enter Tryz.func171,Tryz.ntmps171
   go_wp2
   go_ret
   exact⟨by simp[hc],Below.refl _ _⟩
end
section
open Go.RowKit Go.Lib
abbrev Jb (n:Int):Value:=.iface 249 (.agg #[.int .i64 n])
def YD (m:Nat) (s:ByteArray) (l:List ByteArray):Prop:=Zr s=some l∧l.length≤m
abbrev Takes (s:ByteArray) (l:List ByteArray):Prop:=YD 30 s l
def ZeW (m:Nat) (s:ByteArray) (w:World) (e:Ending) (w':World):Prop :=
 Below w.heap.size w w'∧((∃ l,YD m s l∧e=.returned .nilIface)∨((∀ l,¬ YD m s l)∧∃ n,e=.returned (Jb n)))
theorem Zio {m:Nat} {s:ByteArray} {l:List ByteArray} {p:Nat} (hc:Zr s=(Zr (s.extract p s.size)).map (l++·)) (hp:¬ p < s.size) (hl:l.length≤m):YD m s l:=by
 rw[Zfg s p (by omega)] at hc
 exact⟨by rw[hc];simp,hl⟩
theorem Zip {m:Nat} {s:ByteArray} {l:List ByteArray} {p:Nat} (hc:Zr s=(Zr (s.extract p s.size)).map (l++·)) (hp:p < s.size) (hl:l.length=m):∀ l',¬ YD m s l':=by
 rintro l' ⟨h1,h2⟩
 by_cases hd:Utf8.decode s p=(65533,1)
 · rw[ZcF s p hp hd] at hc
   rw[hc] at h1;cases h1
 · rw[ZcG s p hp hd] at hc
   rw[hc] at h1
   simp only[Option.map_map,Option.map_eq_some_iff] at h1
   obtain⟨m',_,h3⟩:=h1
   subst h3
   simp at h2
   omega
theorem Zin {m:Nat} {s:ByteArray} {l:List ByteArray} {p:Nat} (hc:Zr s=(Zr (s.extract p s.size)).map (l++·)) (hp:p < s.size) (hd:Utf8.decode s p=(65533,1)):∀ l',¬ YD m s l':=by
 rintro l' ⟨h1,h2⟩
 rw[ZcF s p hp hd] at hc
 rw[hc] at h1;cases h1
theorem Ziq {s:ByteArray} {l:List ByteArray} {p:Nat} (hc:Zr s=(Zr (s.extract p s.size)).map (l++·)) (hp:p < s.size) (hd:Utf8.decode s p≠(65533,1)) :
 Zr s=(Zr (s.extract (p+(Utf8.decode s p).2) s.size)).map ((l++[s.extract p (p+(Utf8.decode s p).2)])++·):=by
 rw[hc,ZcG s p hp hd,Option.map_map]
 congr 1
 funext x
 simp
def CheckInv (m:Nat) (s:ByteArray) (w:World) (c:Value) (wr:World):Prop :=
 ∃ (p:Nat) (l:List ByteArray),c=.int .i64 l.length∧wr.heap[w.heap.size]?=some (.stringIter s p)∧Below w.heap.size w wr∧p≤s.size∧l.length≤m∧Zr s=(Zr (s.extract p s.size)).map (l++·)
theorem brk_eq (s:ByteArray) (p:Nat) (h:p < s.size):(decide (((Utf8.decode s p).1:Int)=65533) && decide ((Lib.decodeGo (s.extract p s.size)).2=1))=decide (Utf8.decode s p=(65533,1)):=by
 rw[decodeGo_tail s p h]
 generalize Utf8.decode s p=d
 obtain⟨a,b⟩:=d
 simp only[Prod.mk.injEq]
 by_cases h1:a=65533 <;> by_cases h2:b=1 <;> simp[h1,h2] <;> omega
theorem XK (m:Nat) (hm:m≤30) (s:ByteArray) (w:World) (hs:s.size < lots) (hT:Tabs w) :
 Calls Tryz.prog 144 #[.string s,.int .i64 m] w (ZeW m s w):=by
 have HT:=hid hT
 clear hT
 go_enter Tryz.func144,Tryz.ntmps144
 go_wp2
 go_loopw [5] (fun c wr=>CheckInv m s w c wr) (fun _ wr=>s.size - wr.iterPos w.heap.size)
 case atStart =>
  exact⟨0,[],rfl,heap_alloc_new w _,(Below.refl _ w).alloc (Nat.le_refl _) _,Nat.zero_le _,Nat.zero_le _,by simp⟩
 case round =>
  obtain⟨p,l,rfl,hi,hb,hp,hl,hc⟩:=hrel
  have HC:=hid hc
  clear hc
  by_cases hlt:p<s.size
  · have hnx:=fun ty=>Lib.run_next_any_at (P:=Tryz.prog) _ w.heap.size s p ty hi hlt
    have B:=hid (brk_eq s p hlt)
    have W:=hid (ZeM s p hlt)
    have F:=hid (Zip (m:=m) HC.out hlt)
    have D:=hid (Zin (m:=m) HC.out hlt)
    have N:=hid (Ziq HC.out hlt)
    obtain⟨R,K,hRK⟩:∃ R K,Utf8.decode s p=(R,K):=⟨_,_,rfl⟩
    rw[hRK] at hnx B W D N
    simp only at hnx B W
    clear hRK HC
    have hi2:=iterAt_heap _ _ s p (p+K) hi
    have hb2:=below_iterAt hb (Nat.le_refl _) s (p+K)
    have hpI:(p:Int)≤s.size:=by omega
    by_cases h30:l.length=m
    · have h30I:(m:Int)≤l.length:=by omega
      have h30N:m≤l.length:=by omega
      go_wp2
      go_ret
      exact⟨hb2,.inr ⟨F.out h30,_,rfl⟩⟩
    · have h30I:¬ (m:Int)≤l.length:=by omega
      have h30N:¬ m≤l.length:=by omega
      have hT2:=HT.out.below hb2
      have C:=hid (Zfa (R:Int) (s.extract p s.size) _ hT2)
      rw[B.out] at C
      clear hT2 B F
      by_cases hd:(R,K)=(65533,1)
      · rw[decide_eq_true hd] at C
        have D2:=hid (D.out hd)
        clear N W D hd
        go_wp2_with (go_at_call 171;refine C.out.mono ?_;rintro e w3 ⟨rfl,hb3⟩)
        go_ret
        exact⟨hb2.trans (hb3.mono hb2.size),.inr ⟨D2.out,_,rfl⟩⟩
      · rw[decide_eq_false hd] at C
        have N2:=hid (N.out hd)
        have W2:=hid (W.out hd)
        clear N W D hd
        go_wp2_with (go_at_call 171;refine C.out.mono ?_;rintro e w3 ⟨rfl,hb3⟩)
        have hw:=W2.out
        have hi3:=(hb3.block w.heap.size (Zc hi2)).trans hi2
        go_roundw
        case rel =>
         refine⟨p+K,l++[s.extract p (p+K)],?_,hi3,hb2.trans (hb3.mono hb2.size),hw.2,by simp;omega,N2.out⟩
         first | simp|go_num
        case measure =>
         rw[iterPos_of hi3,iterPos_of hi]
         omega
  · have hnx:=fun ty=>Lib.run_next_end_at (P:=Tryz.prog) _ w.heap.size s p ty hi hlt
    go_wp2
    go_ret
    exact⟨hb,.inl ⟨l,Zio HC.out hlt hl,rfl⟩⟩
end
section
open Go.RowKit Go.Shelf
attribute [local go_sem] Oper.semAt_some
theorem JU {s:List Nd} (wf:WF s) {h:Nat→Nat} {B:Nat} (u:Up s h B) {F:Nat→Prop} {bf bn cap:Nat} {pn:List PN} {w:World} (hD:Zh w F bf bn cap pn s) (k n o:Nat) (hn:n < s.length) (hk:h n < k) :
 Calls Tryz.prog 173 #[ptr bf,.int .i64 n,.int .i64 o] w fun e w'=>e=.returned (.bool (decide (o∈allF s k n)))∧Below w.heap.size w w':=by
 have HD:=hid hD.narrow
 clear hD
 refine callsIn_wide.1 (callsIn_of_wp_marks (F:=Fence.wide) (n:=1) Tryz.func173 rfl trivial ?_ rfl)
 simp only[Tryz.ntmps173,List.size_toArray,List.length_cons,List.length_nil,Nat.reduceAdd,Nat.reduceSub,Array.replicate_succ,Array.replicate_zero,List.push_toArray,List.append_toArray,List.nil_append,List.cons_append]
 have C:Hid (∀ (m:Nat) (W:World),CallsIn Fence.wide m _ _ _ _ _):=hid (fun m W=>callsIn_wide.2 (Jz bf n W))
 gi_wp2_with (refine⟨trivial,?_⟩;gi_at_call 90;refine(C.out _ _).mono ?_;rintro e w3 ⟨rfl,rfl⟩)
 obtain⟨wb,hwb⟩:∃ wb,(((w.alloc (.cells #[.int .i64 (o:Int)] 3)).alloc (.cells #[.bool false] 4)).alloc (.cells #[ptr bf] 91)).alloc (.cells #[.int .i64 (n:Int)] 3)=wb:=⟨_,rfl⟩
 have hszb:wb.heap.size=w.heap.size+4:=by rw[← hwb];simp
 have hbb:Below w.heap.size w wb:=by rw[← hwb];exact((((Below.refl _ w).alloc (Nat.le_refl _) _).alloc (by simp) _).alloc (by simp;omega) _).alloc (by simp;omega) _
 have x0:wb.heap[w.heap.size]?=some (.cells #[.int .i64 (o:Int)] 3 (0,0)):=by
  rw[← hwb,Below.heap_alloc _ _ _ (by simp;omega),Below.heap_alloc _ _ _ (by simp;omega),Below.heap_alloc _ _ _ (by simp)]
  exact heap_alloc_new w _
 have x1:wb.heap[w.heap.size+1]?=some (.cells #[.bool false] 4 (0,0)):=by
  rw[← hwb,Below.heap_alloc _ _ _ (by simp),Below.heap_alloc _ _ _ (by simp)]
  have:=heap_alloc_new (w.alloc (.cells #[.int .i64 (o:Int)] 3)) (.cells #[.bool false] 4)
  rwa [World.size_alloc] at this
 have x2:wb.heap[w.heap.size+2]?=some (.cells #[ptr bf] 91 (0,0)):=by
  rw[← hwb,Below.heap_alloc _ _ _ (by simp)]
  have:=heap_alloc_new ((w.alloc (.cells #[.int .i64 (o:Int)] 3)).alloc (.cells #[.bool false] 4)) (.cells #[ptr bf] 91)
  rwa [World.size_alloc,World.size_alloc] at this
 have x3:wb.heap[w.heap.size+3]?=some (.cells #[.int .i64 (n:Int)] 3 (0,0)):=by
  rw[← hwb]
  have:=heap_alloc_new (((w.alloc (.cells #[.int .i64 (o:Int)] 3)).alloc (.cells #[.bool false] 4)).alloc (.cells #[ptr bf] 91)) (.cells #[.int .i64 (n:Int)] 3)
  rwa [World.size_alloc,World.size_alloc,World.size_alloc] at this
 rw[hwb]
 refine J4 (gf:=138) (lb:=#[ptr (w.heap.size+3),ptr (w.heap.size+2)]) rfl (enters_of Tryz.func138 (by kernel_rfl) rfl) rfl (O:=fun b=>b=w.heap.size+1) (fun b e=>by omega)
  (Zad wf u k n hn hk wb _ _ _ (HD.out.below hbb) (fun b hb=>⟨by have:=hb.2;omega,by have:=hb.2;omega⟩) (Za x3 0) (Za x2 0) (by omega) (by omega))
  (fun pre O3 W=>O3=(fun b=>b=w.heap.size+1)∧o∉pre∧W.heap[w.heap.size+1]?=some (.cells #[.bool false] 4 (0,0))∧Stp (fun b=>b=w.heap.size+1) O3 wb W)
  (fun pre O3 W=>O3=(fun b=>b=w.heap.size+1)∧o∈pre∧W.heap[w.heap.size+1]?=some (.cells #[.bool true] 4 (0,0))∧Stp (fun b=>b=w.heap.size+1) O3 wb W) ?mI ?mIx ?h0
  (fun y=>Act.mk #[ptr bf,Value.int IntKind.i64 n,Value.int IntKind.i64 o,undef,undef,
    Value.pointer (some { block:=w.heap.size,off:=0 }),
    Value.pointer (some { block:=w.heap.size+1,off:=0 }),Value.int IntKind.i64 y,ptr bf,Value.int IntKind.i64 n,
    Value.func (Fn.func 138) #[] #[ptr (w.heap.size+1+1+1),ptr (w.heap.size+1+1)],Value.int IntKind.i64 y,undef,undef,
    undef] []) ?assign ?body ?done ?stop
 case mI =>
  rintro pre O3 X Y ⟨rfl,h1,h2,h3⟩ hk
  exact⟨rfl,h1,by rw[hk.block _ (Zc h2) (fun e=>e.1 rfl)];exact h2,XW (Nat.le_refl _) h3 hk⟩
 case mIx =>
  rintro pre O3 X Y ⟨rfl,h1,h2,h3⟩ hk
  exact⟨rfl,h1,by rw[hk.block _ (Zc h2) (fun e=>e.1 rfl)];exact h2,XW (Nat.le_refl _) h3 hk⟩
 case h0=>exact⟨rfl,by simp,x1,Stp.refl (fun b e=>by omega)⟩
 case assign =>
  intro m l' y W K hK
  dsimp only[encN]
  gi_wp2
  exact hK
 case body =>
  rintro m l' pre y O3 W hpre hO3 ⟨rfl,h1,h2,h3⟩
  have f0:W.cell? ⟨w.heap.size,0,none⟩=some (.int .i64 (o:Int)):=h3.keeps.cell (Za x0 0) (by simp)
  have f1:W.cell? ⟨w.heap.size+1,0,none⟩=some (.bool false):=Za h2 0
  have f2:=Zd h2 0
  have H3:=hid h3
  have H2:=hid h2
  have H1:=hid h1
  clear h3 h2 h1 x0 x1 x2 x3 hpre
  by_cases hyo:y=o
  · subst hyo
    gi_wp2
    have hs:Stp (fun b=>b=w.heap.size+1) (fun b=>b=w.heap.size+1) W (W.setCell ⟨w.heap.size+1,0,none⟩ (.bool true)) :=
     ⟨(Zb.refl (fun b=>b=w.heap.size+1) W).setCell (p:=⟨w.heap.size+1,0,none⟩) (.inl rfl) _,fun b e=>.inl e,fun b e=>by have:=hO3 b e;simpa[World.setCell] using this⟩
    exact⟨_,hs,rfl,by simp,by rw[heap_setCell_same W _ 0 _ _ _ H2.out];rfl,H3.out.trans hs⟩
  · have hyI:((y:Int) == (o:Int))=false:=by simp;omega
    have hyJ:¬ (y:Int)=(o:Int):=by omega
    gi_wp2
    exact⟨_,Stp.refl hO3,rfl,by simp[H1.out];omega,H2.out,H3.out⟩
 case done =>
  rintro O5 W st5 hn5 ⟨rfl,h1,h2,h3⟩ hD5
  have f1:W.cell? ⟨w.heap.size+1,0,none⟩=some (.bool false):=Za h2 0
  have f2:=Zd h2 0
  have H5:=hid (And.intro st5 (And.intro h1 (And.intro h2 hD5)))
  clear st5 hn5 h1 h2 h3 hD5 x0 x1 x2 x3
  gi_wp2
  obtain⟨st5,h1,h2,hD5⟩:=H5.out
  refine Y9 [wb.heap.size] _ (by simp) (fun D hm=>?_) (fun w' hk'=>⟨.bool false,?_,?_,?_⟩)
  · obtain rfl:D=wb.heap.size:=by simpa using hm
    rw[Below.heap_setCell _ _ _ _ (by simp;omega)]
    exact hD5
  · have hh:=heap_setCell_same W _ 0 _ _ (.bool false) h2
    have hc:w'.cell? ⟨w.heap.size+1,0,none⟩=some (.bool false):=hk'.cell (Za hh 0) (by simp;omega)
    simp[results,Tryz.f173,go_sem,hc]
  · rw[decide_eq_false h1]
  · have k1:Zb (fun _=>False) w wb:=Zb.of_below hbb
    have k2:Zb (fun _=>False) w W:=k1.trans (st5.keeps.mono (fun b _ e=>.inr (by omega)))
    exact((k2.setCell (p:=⟨w.heap.size+1,0,none⟩) (.inr (by simp)) _).trans (hk'.mono (fun b _ e=>.inr (by simp at e;omega)))).below
 case stop =>
  rintro O5 pre W hpre st5 hn5 ⟨rfl,h1,h2,h3⟩ hD5
  have H5:=hid (And.intro st5 (And.intro h1 (And.intro h2 (And.intro hD5 hpre))))
  clear st5 hn5 h1 h2 h3 hD5 x0 x1 x2 x3 hpre
  gi_wp2
  obtain⟨st5,h1,h2,hD5,hpre⟩:=H5.out
  refine Y9 [wb.heap.size] _ (by simp) (fun D hm=>?_) (fun w' hk'=>⟨.bool true,?_,?_,?_⟩)
  · obtain rfl:D=wb.heap.size:=by simpa using hm
    exact hD5
  · have hc:w'.cell? ⟨w.heap.size+1,0,none⟩=some (.bool true):=hk'.cell (Za h2 0) (by simp;omega)
    simp[results,Tryz.f173,go_sem,hc]
  · rw[decide_eq_true (hpre.subset h1)]
  · have k1:Zb (fun _=>False) w wb:=Zb.of_below hbb
    have k2:Zb (fun _=>False) w W:=k1.trans (st5.keeps.mono (fun b _ e=>.inr (by omega)))
    exact(k2.trans (hk'.mono (fun b _ e=>.inr (by simp at e;omega)))).below
end
end Go.Proofs.YtabogkonklplcaaGreatDoor
