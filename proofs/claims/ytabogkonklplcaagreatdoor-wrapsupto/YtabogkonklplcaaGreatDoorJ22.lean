import Derived.Test.YtabogkonklplcaaGreatDoorJ20
namespace Go.Proofs.YtabogkonklplcaaGreatDoor
set_option linter.unusedSimpArgs false
set_option linter.unusedVariables false
set_option maxRecDepth 20000
set_option maxHeartbeats 8000000
section
open Go.RowKit Go.Extern.Stop Go.Stop Go.Extern
theorem Zc1 (v:Value) (w:World):(ReflectliteType.typeOf #[.iface 227 v]).run Tryz.prog w=.ok (.iface 149 (.agg #[.pointer (some ⟨7,227,none⟩)])) w:=by kernel_rfl
theorem fa_asgOP (w : World) : (ReflectliteType.relation "AssignableTo" ReflectliteType.assignableTo #[.agg #[.pointer (some ⟨7, 227, none⟩)], .iface 149 (.agg #[.pointer (some ⟨7, 30, none⟩)])]).run Tryz.prog w = .ok (.bool false) w := by kernel_rfl
theorem fa_asgOM (w : World) : (ReflectliteType.relation "AssignableTo" ReflectliteType.assignableTo #[.agg #[.pointer (some ⟨7, 227, none⟩)], .iface 149 (.agg #[.pointer (some ⟨7, 141, none⟩)])]).run Tryz.prog w = .ok (.bool false) w := by kernel_rfl
theorem ZcV (v:Value) (w:World):(Instr.typeAssert (.iface 227 v) 29 244 true).run Tryz.prog w=.ok (.tuple #[.nilIface,.bool false]) w:=run_typeAssert_lacksB Tryz.underlying244 (by kernel_rfl) (by kernel_rfl) v _ w
theorem Zc3 (v:Value) (w:World):(Instr.typeAssert (.iface 227 v) 29 154 true).run Tryz.prog w=.ok (.tuple #[.iface 227 v,.bool true]) w:=by kernel_rfl
theorem as_O (n y at_:Int) (tb:Nat) (o0:Value) (w:World) (hg:Glob w) (hq:w.heap[tb]?=some (.cells #[o0] 30 (0,0))) :
 Calls Tryz.prog 91 #[.iface 145 (.agg #[.int .i64 n,.iface 227 (.agg #[.int .i64 at_])]),.iface 147 (.pointer (some ⟨tb,0,none⟩))] w fun e w'=>e=.returned (.bool true) ∧
  w'=(((((((w.alloc (.cells #[.pointer (some ⟨tb,0,none⟩)] 147)).alloc (.cells #[.pointer (some ⟨7,147,none⟩),.pointer (some ⟨w.heap.size,0,none⟩),.int .u64 150] 206)).alloc (.cells #[.pointer (some ⟨7,147,none⟩),.pointer (some ⟨w.heap.size,0,none⟩),.int .u64 150] 206)).alloc (.cells #[.int .i64 n,.iface 227 (.agg #[.int .i64 at_])] 145)).alloc (.cells #[.int .i64 at_] 227)).alloc (.cells #[.int .i64 3] 30)).setCell ⟨tb,0,none⟩ (.int .i64 3)):=by
 have htl:tb<w.heap.size:=Zc hq
 have hgl:=hg.lt
 have h6:=Xq
 have h7:=Xr
 have h8:=Xs
 have h27:=Xm
 have h37:=Xo
 have h38:=Xp
 have h10:=Yv
 have h35:=Xn
 have h11:=JR
 have h12:=JS
 have f6:=ZbG
 have f7:=ZbE
 have k1:=Zbz
 have k2:=Zby
 have e1:=Zbu
 have i1:=Zbw
 have tO:=YK
 have tO2:=XO
 have tO3:=Zc1
 have a1:=Zbr
 have a2:=Zbt
 have a3:=fa_asgOP
 have v1:=ZbF
 have n8:=Zbx ⟨w.heap.size,0,none⟩ ⟨tb,0,none⟩ ((w.alloc (.cells #[.pointer (some ⟨tb,0,none⟩)] 147)).alloc (.cells #[.pointer (some ⟨7,147,none⟩),.pointer (some ⟨w.heap.size,0,none⟩),.int .u64 150] 206)) (by simp)
 have hg2:((w.alloc (.cells #[.pointer (some ⟨tb,0,none⟩)] 147)).alloc (.cells #[.pointer (some ⟨7,147,none⟩),.pointer (some ⟨w.heap.size,0,none⟩),.int .u64 150] 206)).cell? ⟨0,0,none⟩=some (.iface 149 (.agg #[.pointer (some ⟨7,29,none⟩)])):=by
  rw[World.cell?_alloc_lt _ _ ⟨0,0,none⟩ (by simp only[World.size_alloc];omega),World.cell?_alloc_lt _ _ ⟨0,0,none⟩ hgl];exact hg
 have hq1:(((((w.alloc (.cells #[.pointer (some ⟨tb,0,none⟩)] 147)).alloc (.cells #[.pointer (some ⟨7,147,none⟩),.pointer (some ⟨w.heap.size,0,none⟩),.int .u64 150] 206)).alloc (.cells #[.pointer (some ⟨7,147,none⟩),.pointer (some ⟨w.heap.size,0,none⟩),.int .u64 150] 206)).alloc (.cells #[.int .i64 n,.iface 227 (.agg #[.int .i64 at_])] 145)).alloc (.cells #[.int .i64 at_] 227)).heap[w.heap.size]?=some (.cells #[.pointer (some ⟨tb,0,none⟩)] 147 (0,0)):=by
  rw[Below.heap_alloc _ _ _ (by simp only[World.size_alloc];omega),Below.heap_alloc _ _ _ (by simp only[World.size_alloc];omega),Below.heap_alloc _ _ _ (by simp only[World.size_alloc];omega),Below.heap_alloc _ _ _ (by simp only[World.size_alloc];omega),heap_alloc_new]
 have el:=Zbv ⟨w.heap.size,0,none⟩ ⟨tb,0,none⟩ (((((w.alloc (.cells #[.pointer (some ⟨tb,0,none⟩)] 147)).alloc (.cells #[.pointer (some ⟨7,147,none⟩),.pointer (some ⟨w.heap.size,0,none⟩),.int .u64 150] 206)).alloc (.cells #[.pointer (some ⟨7,147,none⟩),.pointer (some ⟨w.heap.size,0,none⟩),.int .u64 150] 206)).alloc (.cells #[.int .i64 n,.iface 227 (.agg #[.int .i64 at_])] 145)).alloc (.cells #[.int .i64 at_] 227)) (Za hq1 0)
 have hq4:((((((w.alloc (.cells #[.pointer (some ⟨tb,0,none⟩)] 147)).alloc (.cells #[.pointer (some ⟨7,147,none⟩),.pointer (some ⟨w.heap.size,0,none⟩),.int .u64 150] 206)).alloc (.cells #[.pointer (some ⟨7,147,none⟩),.pointer (some ⟨w.heap.size,0,none⟩),.int .u64 150] 206)).alloc (.cells #[.int .i64 n,.iface 227 (.agg #[.int .i64 at_])] 145)).alloc (.cells #[.int .i64 at_] 227)).alloc (.cells #[.int .i64 3] 30)).heap[tb]?=some (.cells #[o0] 30 (0,0)):=by
  rw[Below.heap_alloc _ _ _ (by simp only[World.size_alloc];omega),Below.heap_alloc _ _ _ (by simp only[World.size_alloc];omega),Below.heap_alloc _ _ _ (by simp only[World.size_alloc];omega),Below.heap_alloc _ _ _ (by simp only[World.size_alloc];omega),Below.heap_alloc _ _ _ (by simp only[World.size_alloc];omega),Below.heap_alloc _ _ _ htl];exact hq
 have hnew:=heap_alloc_new (((((w.alloc (.cells #[.pointer (some ⟨tb,0,none⟩)] 147)).alloc (.cells #[.pointer (some ⟨7,147,none⟩),.pointer (some ⟨w.heap.size,0,none⟩),.int .u64 150] 206)).alloc (.cells #[.pointer (some ⟨7,147,none⟩),.pointer (some ⟨w.heap.size,0,none⟩),.int .u64 150] 206)).alloc (.cells #[.int .i64 n,.iface 227 (.agg #[.int .i64 at_])] 145)).alloc (.cells #[.int .i64 at_] 227)) (.cells #[.int .i64 3] 30)
 have st:=ZbD ⟨tb,0,none⟩ ⟨w.heap.size+1+1+1+1+1,0,none⟩ 3 o0 ((((((w.alloc (.cells #[.pointer (some ⟨tb,0,none⟩)] 147)).alloc (.cells #[.pointer (some ⟨7,147,none⟩),.pointer (some ⟨w.heap.size,0,none⟩),.int .u64 150] 206)).alloc (.cells #[.pointer (some ⟨7,147,none⟩),.pointer (some ⟨w.heap.size,0,none⟩),.int .u64 150] 206)).alloc (.cells #[.int .i64 n,.iface 227 (.agg #[.int .i64 at_])] 145)).alloc (.cells #[.int .i64 at_] 227)).alloc (.cells #[.int .i64 3] 30))
  (by have:=Za hnew 0;simpa using this) (Za hq4 0) (Zd hq4 0)
 clear hq hq1 hq4 hnew hg
 have na:=X9
 have nu:=Y7
 have na2:=ZcV
 have nu2:=Zc3
 go_enter Tryz.func91,Tryz.ntmps91
 go_wp2
 refine wp_loop_rounds 3 ?_
 rw[rounds_succ]
 go_wp2
 rw[rounds_succ]
 go_wp2
 rw[rounds_succ]
 go_wp2
 go_ret
 exact⟨rfl,rfl⟩
theorem as_MO (n at_:Int) (tb:Nat) (o0:Value) (w:World) (hg:Glob w) (hq:w.heap[tb]?=some (.cells #[o0] 141 (0,0))) :
 Calls Tryz.prog 91 #[.iface 145 (.agg #[.int .i64 n,.iface 227 (.agg #[.int .i64 at_])]),.iface 143 (.pointer (some ⟨tb,0,none⟩))] w fun e w'=>e=.returned (.bool false)∧Below w.heap.size w w':=by
 have htl:tb<w.heap.size:=Zc hq
 have hgl:=hg.lt
 have h6:=Xq
 have h7:=Xr
 have h8:=Xs
 have h27:=Xm
 have h37:=Xo
 have h38:=Xp
 have h10:=Yv
 have h35:=Xn
 have f6:=Zaw
 have f7:=Zat
 have k1:=Zar
 have k2:=Zaq
 have e1:=Zan
 have i1:=Zao
 have tO:=YK
 have tO2:=XO
 have tO3:=Zc1
 have a1:=Zbq
 have a2:=Zbs
 have a3:=fa_asgOM
 have n8:=Zap ⟨w.heap.size,0,none⟩ ⟨tb,0,none⟩ ((w.alloc (.cells #[.pointer (some ⟨tb,0,none⟩)] 143)).alloc (.cells #[.pointer (some ⟨7,143,none⟩),.pointer (some ⟨w.heap.size,0,none⟩),.int .u64 150] 206)) (by simp)
 have hg2:((w.alloc (.cells #[.pointer (some ⟨tb,0,none⟩)] 143)).alloc (.cells #[.pointer (some ⟨7,143,none⟩),.pointer (some ⟨w.heap.size,0,none⟩),.int .u64 150] 206)).cell? ⟨0,0,none⟩=some (.iface 149 (.agg #[.pointer (some ⟨7,29,none⟩)])):=by
  rw[World.cell?_alloc_lt _ _ ⟨0,0,none⟩ (by simp only[World.size_alloc];omega),World.cell?_alloc_lt _ _ ⟨0,0,none⟩ hgl];exact hg
 clear hq hg
 have na:=X9
 have nu:=Y7
 have na2:=ZcV
 have nu2:=Zc3
 have na3:=ZbA
 have nu3:=Ja
 have nu4:=Jb
 go_enter Tryz.func91,Tryz.ntmps91
 go_wp2
 refine wp_loop_rounds 3 ?_
 rw[rounds_succ]
 go_wp2
 rw[rounds_succ]
 go_wp2
 rw[rounds_succ]
 go_wp2
 go_ret
 exact⟨rfl,by go_grown⟩
theorem as_O' (n at_:Int) (tb:Nat) (o0:Value) (w:World) (hg:Glob w) (hq:w.heap[tb]?=some (.cells #[o0] 30 (0,0))) :
 Calls Tryz.prog 91 #[.iface 145 (.agg #[.int .i64 n,.iface 227 (.agg #[.int .i64 at_])]),.iface 147 (.pointer (some ⟨tb,0,none⟩))] w fun e w'=>e=.returned (.bool true) ∧
  Zb (fun b=>b=tb) w w'∧w'.heap[tb]?=some (.cells #[.int .i64 3] 30 (0,0)):=by
 refine(as_O n 0 at_ tb o0 w hg hq).mono ?_
 rintro e w' ⟨rfl,rfl⟩
 have htl:=Zc hq
 refine⟨rfl,?_,ZaV (o:=o0) ?_⟩
 · exact(((((((Zb.refl (fun b=>b=tb) w).alloc _).alloc _).alloc _).alloc _).alloc _).alloc _).setCell (p:=⟨tb,0,none⟩) (.inl rfl) _
 · rw[Below.heap_alloc _ _ _ (by simp only[World.size_alloc];omega),Below.heap_alloc _ _ _ (by simp only[World.size_alloc];omega),Below.heap_alloc _ _ _ (by simp only[World.size_alloc];omega),Below.heap_alloc _ _ _ (by simp only[World.size_alloc];omega),Below.heap_alloc _ _ _ (by simp only[World.size_alloc];omega),Below.heap_alloc _ _ _ htl];exact hq
theorem fault_O (n at_:Int) (w:World) (hg:Glob w) :
 Calls Tryz.prog 46 #[.iface 145 (.agg #[.int .i64 n,.iface 227 (.agg #[.int .i64 at_])])] w fun e w'=>e=.returned (.iface 32 (.agg #[.int .i64 n,.int .i64 3]))∧Below w.heap.size w w' :=
 ZbH n 3 _ rfl w hg (fun tb o0 w1 h1 h2=>as_MO n at_ tb o0 w1 h1 h2) (fun tb o0 w1 h1 h2=>as_O' n at_ tb o0 w1 h1 h2)
end
end Go.Proofs.YtabogkonklplcaaGreatDoor
