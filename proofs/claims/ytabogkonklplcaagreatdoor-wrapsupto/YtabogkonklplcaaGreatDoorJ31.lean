import Derived.Test.YtabogkonklplcaaGreatDoorJ29
import Derived.Test.YtabogkonklplcaaGreatDoorJ30
namespace Go.Proofs.YtabogkonklplcaaGreatDoor
set_option linter.unusedSimpArgs false
set_option linter.unusedVariables false
set_option maxRecDepth 20000
set_option maxHeartbeats 8000000
section
open Go.RowKit Go.Lib
section
variable {w:World} {F:Nat→Prop} {bx bf bl:Nat} {sv:Value} {s:List Nd} {rs:List Sp}
theorem Zge (hg:GG w) (hD:Zk w F bx bf bl sv ⟨s,rs⟩) (h6:rs.length < 6) :
 Calls Tryz.prog 96 #[ptr bl] w fun e w'=>e=.returned (.tuple #[.int .i64 rs.length,.nilIface])∧Zb F w w'∧∃ sv',Zk w' (grow F w) bx bf bl sv' ⟨s,rs++[⟨0,0,0,0⟩]⟩:=by
 obtain⟨i0,hi,hz0,hz1,hz2⟩:=info_parts Tryz.info79
 obtain⟨ra,rc,hsv⟩:=Zo hD.spans
 have c1:w.cell? ⟨bl,1,none⟩=some sv:=Za hD.list 1
 rw[hsv] at c1
 have hll:=Zc hD.list
 have h1:decide ((6:Int)≤(rs.length:Int))=false:=decide_eq_false (by omega)
 have hW:Below w.heap.size w (((w.alloc (.cells #[.int .i64 0,.int .i64 0] 37)).drew).alloc (.cells #[.int .i64 0,.int .i64 0,.int .i64 0,.int .i64 0] 79)):=(((Below.refl _ w).alloc (Nat.le_refl _) _).drew).alloc (by simp) _
 have hrow:=(Zb.of_below (F:=fun _=>False) hW).row hD.spans (fun _ _ e=>e)
 rw[hsv] at hrow
 simp only at hrow
 have src:∀ (j:Nat) (u:Value),[Value.int .i64 0,.int .i64 0,.int .i64 0,.int .i64 0][j]?=some u→(((w.alloc (.cells #[.int .i64 0,.int .i64 0] 37)).drew).alloc (.cells #[.int .i64 0,.int .i64 0,.int .i64 0,.int .i64 0] 79)).cell? ((⟨w.heap.size+1,0,none⟩:Addr).add j)=some u:=by
  have:=World.news_of_block (heap_alloc_new ((w.alloc (.cells #[.int .i64 0,.int .i64 0] 37)).drew) (.cells #[.int .i64 0,.int .i64 0,.int .i64 0,.int .i64 0] 79))
  simpa using this
 have hbd:(Value.slice ra rs.length rc).ownBlock≠some bl:=fun e=>(hD.apart bl (by rw[hsv];exact e)).2.2.2 rfl
 have hbl:∀ b,(Value.slice ra rs.length rc).ownBlock=some b→b<w.heap.size:=fun b e=>(hD.spans.lt b (by rw[hsv];exact e)).2
 have HBL:=hid hbl
 have hp0:(((w.alloc (.cells #[.int .i64 0,.int .i64 0] 37)).drew).alloc (.cells #[.int .i64 0,.int .i64 0,.int .i64 0,.int .i64 0] 79)).heap[w.heap.size]?=some (.cells #[.int .i64 0,.int .i64 0] 37 (0,0)):=by
  rw[Below.heap_alloc _ _ _ (by simp)];exact heap_alloc_new w _
 have HP0:=hid hp0
 clear hbl hp0
 have HW:=hid hW
 have HROW:=hid hrow
 have SRC:=hid src
 have HBD:=hid hbd
 clear hW hrow src hbd
 have HD:=hid hD
 have HG:=hid hg
 have HSV:=hid hsv
 clear hD hg hsv
 go_enter Tryz.func96,Tryz.ntmps96
 go_wp2
 go_region_law (
  refine step_append_lies _ rfl (.tmp 19) (.tmp 23) 121 rfl 0 79 i0 _ 4 32 Tryz.underlying121 hi hz0 hz1 hz2 rfl (by decide) (.slice ra rs.length rc) rs.length _ (by simp[Act.eval,Act.put]) HROW.out ⟨w.heap.size+1,0,none⟩ 1 1 [.int .i64 0,.int .i64 0,.int .i64 0,.int .i64 0] (by simp[Act.eval,Act.put]) rfl SRC.out (by simp[Value.oneCell']) (by decide) (by unfold maxLen;omega) (by omega) (Nat.zero_le _) (w.heap.size+2) (by simp) ?_
  intro g cap' w1 ho hg hgn _
  have hk1:Zb (fun b=>(Value.slice ra rs.length rc).ownBlock=some b) (((w.alloc (.cells #[.int .i64 0,.int .i64 0] 37)).drew).alloc (.cells #[.int .i64 0,.int .i64 0,.int .i64 0,.int .i64 0] 79)) w1:=Zb.grown hg (fun k e=>.inl e)
  have hd1:=(hk1.block bl (by simp;omega) HBD.out).trans ((HW.out.block bl hll).trans HD.out.list)
  have hc1:w1.cell? ⟨bl,1,none⟩=some (.slice ra rs.length rc):=by rw[← HSV.out];exact Za hd1 1
  have hf1:=Zd hd1 1
  have hp0:=(hk1.block w.heap.size (by simp;omega) (fun e=>by have:=HBL.out _ e;omega)).trans (HP0.out)
  have KEEP:=hid (And.intro (Za hp0 0) (Za hp0 1))
  have hbw:¬ bl=w.heap.size:=by omega
  have HK:=hid hk1
  have HO2:=hid ho
  have HN:=hid hgn
  clear hd1 hg ho hgn hk1 hp0)
 all_goals
  go_wp2
  go_ret2
  have hkw:Zb (fun b=>sv.ownBlock=some b) w w1:=by
   rw[HSV.out]
   exact(Zb.of_below HW.out).trans (HK.out.mono (fun b _ e=>.inl e))
  have hN:=HD.out.newSpans HG.out hkw (v':=.slice (some ⟨g,0,none⟩) (rs.length+1) cap') (rs':=rs++[⟨0,0,0,0⟩]) (by rw[List.length_append,List.flatMap_append];exact HO2.out) (fun b e=>by
   cases e
   rcases HN.out with e|e
   · exact .inl (by rw[HSV.out];exact e)
   · exact .inr (by show w.heap.size≤g;have e2:g=w.heap.size+2:=e;omega))
  have hkF:Zb F w w1:=hkw.mono (fun b _ e=>(HD.out.apart b e).1)
  exact⟨rfl,hkF.setCell (p:=⟨bl,1,none⟩) (.inl HD.out.Fl) _,_,hN⟩
end
end
section
open Go.RowKit Go.Lib
theorem JN (r:Int):Z2 (.iface 141 (.agg #[.int .i64 r])) r 8:=fun w hg=>(fault_M r w hg).mono fun e w' ⟨h1,h2⟩=>⟨by rw [h1];simp [errV],h2⟩
theorem Zv.after {w w':World} {F:Nat→Prop} {bx:Nat} {st:St} (h:Zv w F bx st) (hb:Below w.heap.size w w'):Zb F w w'∧Zv w' (grow F w) bx st :=
 ⟨Zb.of_below hb,(h.keeps (Zb.of_below (F:=fun _=>False) hb) (fun _ _ e=>e)).wider (fun b h=>.inl h)⟩
section
variable {w:World} {F:Nat→Prop} {bx:Nat} {s:List Nd} {rs:List Sp}
theorem ZgB (hg:GG w) (hP:Zv w F bx ⟨s,rs⟩) (h6:6≤rs.length):Calls Tryz.prog 56 #[ptr bx] w (ZY F w bx ⟨s,rs⟩ (.tuple #[.int .i64 0,errV 0 7])):=by
 have HP:=hid hP
 obtain⟨bf,bl,sv,hD⟩:=hP
 have C:=hid (Zgd hD h6)
 have c1:w.cell? ⟨bx,1,none⟩=some (ptr bl):=Za hD.doc 1
 have E:=hid (fun w1 (hb:Below w.heap.size w w1)=>Yi 0 7 (by decide) w1 (hg.below hb).1)
 clear hD hg
 go_enter Tryz.func56,Tryz.ntmps56
 go_wp2_with first
  | (go_at_call 96;refine C.out.mono ?_;rintro e w1 ⟨rfl,hb1⟩;have E1:=hid (E.out w1 hb1))
  | (go_at_call 46;refine E1.out.mono ?_;rintro e w2 ⟨rfl,hb2⟩)
 go_ret2
 exact⟨rfl,HP.out.after (hb1.trans (hb2.mono hb1.size))⟩
theorem ZgC (hg:GG w) (hP:Zv w F bx ⟨s,rs⟩) (h6:rs.length < 6):Calls Tryz.prog 56 #[ptr bx] w (ZY F w bx ⟨s,rs++[⟨0,0,0,0⟩]⟩ (.tuple #[.int .i64 rs.length,errV 0 0])):=by
 obtain⟨bf,bl,sv,hD⟩:=hP
 have C:=hid (Zge hg hD h6)
 have c1:w.cell? ⟨bx,1,none⟩=some (ptr bl):=Za hD.doc 1
 clear hD hg
 go_enter Tryz.func56,Tryz.ntmps56
 go_wp2_with first
  | (go_at_call 96;refine C.out.mono ?_;rintro e w1 ⟨rfl,hk1,sv',hD1⟩;have H1:=hid (And.intro hk1 hD1);clear hk1 hD1)
  | (go_at_call 46;refine(JP _).mono ?_;rintro e w2 ⟨rfl,hb2⟩)
 go_ret2
 obtain⟨hk1,hD1⟩:=H1.out
 exact⟨by simp[errV],hk1.trans (Zb.of_below hb2),_,_,_,hD1.below hb2⟩
end
end
end Go.Proofs.YtabogkonklplcaaGreatDoor
