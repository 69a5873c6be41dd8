import Derived.Test.YtabogkonklplcaaGreatDoorJ20
namespace Go.Proofs.YtabogkonklplcaaGreatDoor
set_option linter.unusedSimpArgs false
set_option linter.unusedVariables false
set_option maxRecDepth 20000
set_option maxHeartbeats 8000000
section
open Go.RowKit Go.Extern.Stop Go.Stop Go.Extern
theorem ZfI (v:Value) (w:World):(ReflectliteType.typeOf #[.iface 141 v]).run Tryz.prog w=.ok (.iface 149 (.agg #[.pointer (some ⟨7,141,none⟩)])) w:=by kernel_rfl
theorem fa_asgMM (w : World) : (ReflectliteType.relation "AssignableTo" ReflectliteType.assignableTo #[.agg #[.pointer (some ⟨7, 141, none⟩)], .iface 149 (.agg #[.pointer (some ⟨7, 141, none⟩)])]).run Tryz.prog w = .ok (.bool true) w := by kernel_rfl
theorem fa_valM (n:Int) (w:World):(ReflectliteValue.unpack (.iface 141 (.agg #[.int .i64 n]))).run Tryz.prog w
 = .ok (.agg #[.pointer (some ⟨7,141,none⟩),.pointer (some ⟨w.heap.size,0,none⟩),.int .u64 153]) (w.alloc (.cells #[.int .i64 n] 141)):=by kernel_rfl
theorem Zfu (w:World):(Rtype.elem? 143).run Tryz.prog w=.ok (some 141) w:=by kernel_rfl
theorem fa_mkM (p:Addr) (w:World):(ReflectliteValue.mk 141 p ReflectliteValue.flagAddr).run Tryz.prog w=.ok (.agg #[.pointer (some ⟨7,141,none⟩),.pointer (some p),.int .u64 409]) w:=by kernel_rfl
theorem Zfx (a p:Addr) (W:World) (ha:W.cell? a=some (.pointer (some p))) :
 (ReflectliteValue.method (ReflectliteValue.valueError "reflectlite.Value.Elem" 0) ReflectliteValue.elem #[.agg #[.pointer (some ⟨7, 143, none⟩), .pointer (some a), .int .u64 150]]).run Tryz.prog W
   = .ok (.agg #[.pointer (some ⟨7,141,none⟩),.pointer (some p),.int .u64 409]) W:=by
 rw[rlm]
 simp only[Sem.run_bind,ZcY,Result.andThen]
 simp[ReflectliteValue.elem,loadVar,isAgg,underlying,Tryz.underlying143,ha,Result.andThen,Zfu,fa_mkM]
theorem ZfC (a:Addr) (w:World):(ReflectliteValue.parts (.agg #[.pointer (some ⟨7,141,none⟩),.pointer (some a),.int .u64 409])).run Tryz.prog w=.ok (some (141,a,409)) w:=by kernel_rfl
theorem ZfD (a:Addr) (w:World):(ReflectliteValue.parts (.agg #[.pointer (some ⟨7,141,none⟩),.pointer (some a),.int .u64 153])).run Tryz.prog w=.ok (some (141,a,153)) w:=by kernel_rfl
theorem fa_dirM (w:World):(Rtype.directlyAssignable 141 141).run Tryz.prog w=.ok true w:=by kernel_rfl
theorem fa_setM (tb bb:Nat) (n:Int) (o0:Value) (W:World) (hb0:W.cell? ⟨bb,0,none⟩=some (.int .i64 n)) (ht0:W.cell? ⟨tb,0,none⟩=some o0) (hf0:W.frozen? ⟨tb,0,none⟩=false) :
 (ReflectliteValue.set #[.agg #[.pointer (some ⟨7,141,none⟩),.pointer (some ⟨tb,0,none⟩),.int .u64 409],.agg #[.pointer (some ⟨7,141,none⟩),.pointer (some ⟨bb,0,none⟩),.int .u64 153]]).run Tryz.prog W
   = .ok (.tuple #[]) (W.setCell ⟨tb,0,none⟩ (.int .i64 n)):=by
 rw[rls]
 simp only[Sem.run_bind,ZfC,ZfD,Result.andThen]
 simp[ReflectliteValue.flagAddr,loadVar,isAgg,underlying,Tryz.underlying141,hb0,Result.andThen,fa_dirM,storeVar,Value.cells,storeCells,Addr.add,loadCellsFrom]
 have hlc:(loadCells ⟨bb,0,none⟩ 1).run Tryz.prog W=.ok #[.int .i64 n] W:=by
  simp[loadCells,loadCellsFrom,Addr.add,go_sem,hb0,Result.andThen]
 rw[hlc]
 simp[storeCells,Addr.add,Sem.run_bind]
 rw[run_store Tryz.prog W ⟨tb,0,none⟩ _ _ (by rfl)]
 simp[ht0,hf0,Result.andThen]
theorem as_MM (n:Int) (tb:Nat) (o0:Value) (w:World) (hg:Glob w) (hq:w.heap[tb]?=some (.cells #[o0] 141 (0,0))) :
 Calls Tryz.prog 91 #[.iface 141 (.agg #[.int .i64 n]),.iface 143 (.pointer (some ⟨tb,0,none⟩))] w fun e w'=>e=.returned (.bool true) ∧
  w'=(((((w.alloc (.cells #[.pointer (some ⟨tb,0,none⟩)] 143)).alloc (.cells #[.pointer (some ⟨7,143,none⟩),.pointer (some ⟨w.heap.size,0,none⟩),.int .u64 150] 206)).alloc (.cells #[.pointer (some ⟨7,143,none⟩),.pointer (some ⟨w.heap.size,0,none⟩),.int .u64 150] 206)).alloc (.cells #[.int .i64 n] 141)).setCell ⟨tb,0,none⟩ (.int .i64 n)):=by
 have htl:tb<w.heap.size:=Zc hq
 have hgl:=hg.lt
 have h6:=Xq
 have h7:=Xr
 have h8:=Xs
 have h27:=Xm
 have h37:=Xo
 have h38:=Xp
 have h10:=Yv
 have h35:=Xn
 have h11:=JR
 have h12:=JS
 have f6:=Zaw
 have f7:=Zat
 have k1:=Zar
 have k2:=Zaq
 have e1:=Zan
 have i1:=Zao
 have tO:=ZfI
 have a1:=fa_asgMM
 have v1:=fa_valM
 have n8:=Zap ⟨w.heap.size,0,none⟩ ⟨tb,0,none⟩ ((w.alloc (.cells #[.pointer (some ⟨tb,0,none⟩)] 143)).alloc (.cells #[.pointer (some ⟨7,143,none⟩),.pointer (some ⟨w.heap.size,0,none⟩),.int .u64 150] 206)) (by simp)
 have hg2:((w.alloc (.cells #[.pointer (some ⟨tb,0,none⟩)] 143)).alloc (.cells #[.pointer (some ⟨7,143,none⟩),.pointer (some ⟨w.heap.size,0,none⟩),.int .u64 150] 206)).cell? ⟨0,0,none⟩=some (.iface 149 (.agg #[.pointer (some ⟨7,29,none⟩)])):=by
  rw[World.cell?_alloc_lt _ _ ⟨0,0,none⟩ (by simp only[World.size_alloc];omega),World.cell?_alloc_lt _ _ ⟨0,0,none⟩ hgl];exact hg
 have el:=Zfx ⟨w.heap.size,0,none⟩ ⟨tb,0,none⟩ (((w.alloc (.cells #[.pointer (some ⟨tb,0,none⟩)] 143)).alloc (.cells #[.pointer (some ⟨7,143,none⟩),.pointer (some ⟨w.heap.size,0,none⟩),.int .u64 150] 206)).alloc (.cells #[.pointer (some ⟨7,143,none⟩),.pointer (some ⟨w.heap.size,0,none⟩),.int .u64 150] 206)) (by rw[World.cell?_alloc_lt _ _ ⟨w.heap.size,0,none⟩ (by simp only[World.size_alloc];omega)];simp)
 have hq4:((((w.alloc (.cells #[.pointer (some ⟨tb,0,none⟩)] 143)).alloc (.cells #[.pointer (some ⟨7,143,none⟩),.pointer (some ⟨w.heap.size,0,none⟩),.int .u64 150] 206)).alloc (.cells #[.pointer (some ⟨7,143,none⟩),.pointer (some ⟨w.heap.size,0,none⟩),.int .u64 150] 206)).alloc (.cells #[.int .i64 n] 141)).heap[tb]?=some (.cells #[o0] 141 (0,0)):=by
  rw[Below.heap_alloc _ _ _ (by simp only[World.size_alloc];omega),Below.heap_alloc _ _ _ (by simp only[World.size_alloc];omega),Below.heap_alloc _ _ _ (by simp only[World.size_alloc];omega),Below.heap_alloc _ _ _ htl];exact hq
 have hnew:=heap_alloc_new (((w.alloc (.cells #[.pointer (some ⟨tb,0,none⟩)] 143)).alloc (.cells #[.pointer (some ⟨7,143,none⟩),.pointer (some ⟨w.heap.size,0,none⟩),.int .u64 150] 206)).alloc (.cells #[.pointer (some ⟨7,143,none⟩),.pointer (some ⟨w.heap.size,0,none⟩),.int .u64 150] 206)) (.cells #[.int .i64 n] 141)
 have st:=fa_setM tb (w.heap.size+1+1+1) n o0 ((((w.alloc (.cells #[.pointer (some ⟨tb,0,none⟩)] 143)).alloc (.cells #[.pointer (some ⟨7,143,none⟩),.pointer (some ⟨w.heap.size,0,none⟩),.int .u64 150] 206)).alloc (.cells #[.pointer (some ⟨7,143,none⟩),.pointer (some ⟨w.heap.size,0,none⟩),.int .u64 150] 206)).alloc (.cells #[.int .i64 n] 141))
  (by have:=Za hnew 0;simpa using this) (Za hq4 0) (Zd hq4 0)
 clear hq hq4 hnew hg
 go_enter Tryz.func91,Tryz.ntmps91
 go_wp2
 refine wp_loop_rounds 1 ?_
 rw[rounds_succ]
 go_wp2
 go_ret
 exact⟨rfl,rfl⟩
theorem fault_M (n:Int) (w:World) (hg:Glob w) :
 Calls Tryz.prog 46 #[.iface 141 (.agg #[.int .i64 n])] w fun e w'=>e=.returned (.iface 32 (.agg #[.int .i64 n,.int .i64 8]))∧Below w.heap.size w w':=by
 have hB0:Below w.heap.size w (w.alloc (.cells #[.int .i64 0] 141)):=(Below.refl _ w).alloc (Nat.le_refl _) _
 have C:=hid (as_MM n w.heap.size (.int .i64 0) (w.alloc (.cells #[.int .i64 0] 141)) (hg.below hB0) (heap_alloc_new w _))
 have HB0:=hid hB0
 clear hg hB0
 go_enter Tryz.func46,Tryz.ntmps46
 go_wp2_with (go_at_call 91;refine C.out.mono ?_;rintro e w1 ⟨rfl,hw1⟩
              have hb1:Below w.heap.size w w1:=by
               rw[hw1]
               exact((((HB0.out.alloc (by simp) _).alloc (by simp;omega) _).alloc (by simp;omega) _).alloc (by simp;omega) _).setCell (p:=⟨w.heap.size,0,none⟩) (Nat.le_refl _) _
              have hq:w1.heap[w.heap.size]?=some (.cells #[.int .i64 n] 141 (0,0)):=by
               rw[hw1]
               refine ZaV (o:=.int .i64 0) ?_
               rw[Below.heap_alloc _ _ _ (by simp;omega),Below.heap_alloc _ _ _ (by simp;omega),Below.heap_alloc _ _ _ (by simp;omega),Below.heap_alloc _ _ _ (by simp),heap_alloc_new]
              have c0:w1.cell? ⟨w.heap.size,0,none⟩=some (.int .i64 n):=Za hq 0
              clear hw1 hq)
 go_ret
 exact⟨rfl,by first|exact hb1|go_grown⟩
end
end Go.Proofs.YtabogkonklplcaaGreatDoor
