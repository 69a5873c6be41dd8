import Derived.Test.YtabogkonklplcaaGreatDoorJ05
import Derived.Test.YtabogkonklplcaaGreatDoorJ07
namespace Go.Proofs.YtabogkonklplcaaGreatDoor
set_option linter.unusedSimpArgs false
set_option linter.unusedVariables false
set_option maxRecDepth 20000
set_option maxHeartbeats 8000000
section
open Go.RowKit Go.Extern.Stop Go.Stop Go.Extern
def Glob (w:World):Prop:=w.cell? ⟨0,0,none⟩=some (.iface 149 (.agg #[.pointer (some ⟨7,29,none⟩)]))
theorem Glob.lt {w:World} (h:Glob w):0 < w.heap.size:=World.block_lt_of_cell? w _ h
theorem as_R (n:Int) (y:Value) (hy1:y.oneCell'=true) (tb:Nat) (o0 o1:Value) (w:World) (hg:Glob w) (hq:w.heap[tb]?=some (.cells #[o0,o1] 145 (0,0))) :
 Calls Tryz.prog 91 #[.iface 145 (.agg #[.int .i64 n,y]),.iface 146 (.pointer (some ⟨tb,0,none⟩))] w fun e w'=>e=.returned (.bool true) ∧
  w'=((((((w.alloc (.cells #[.pointer (some ⟨tb,0,none⟩)] 146)).alloc (.cells #[.pointer (some ⟨7,146,none⟩),.pointer (some ⟨w.heap.size,0,none⟩),.int .u64 150] 206)).alloc (.cells #[.pointer (some ⟨7,146,none⟩),.pointer (some ⟨w.heap.size,0,none⟩),.int .u64 150] 206)).alloc (.cells #[.int .i64 n,y] 145)).setCell ⟨tb,0,none⟩ (.int .i64 n)).setCell ⟨tb,1,none⟩ y):=by
 have htl:tb<w.heap.size:=Zc hq
 have hgl:=hg.lt
 have h6:=Xq
 have h7:=Xr
 have h8:=Xs
 have h27:=Xm
 have h37:=Xo
 have h38:=Xp
 have h10:=Yv
 have h35:=Xn
 have h11:=JR
 have h12:=JS
 have f6:=ZfJ
 have f7:=fa_typeR
 have k1:=ZfB
 have k2:=fa_kindR
 have e1:=fa_elemR
 have i1:=fa_implR
 have tO:=XO
 have a1:=fa_asgRR
 have v1:=fa_valR
 have n8:=ZfA ⟨w.heap.size,0,none⟩ ⟨tb,0,none⟩ ((w.alloc (.cells #[.pointer (some ⟨tb,0,none⟩)] 146)).alloc (.cells #[.pointer (some ⟨7,146,none⟩),.pointer (some ⟨w.heap.size,0,none⟩),.int .u64 150] 206)) (by simp)
 have hg2:((w.alloc (.cells #[.pointer (some ⟨tb,0,none⟩)] 146)).alloc (.cells #[.pointer (some ⟨7,146,none⟩),.pointer (some ⟨w.heap.size,0,none⟩),.int .u64 150] 206)).cell? ⟨0,0,none⟩=some (.iface 149 (.agg #[.pointer (some ⟨7,29,none⟩)])):=by
  rw[World.cell?_alloc_lt _ _ ⟨0,0,none⟩ (by simp only[World.size_alloc];omega),World.cell?_alloc_lt _ _ ⟨0,0,none⟩ hgl];exact hg
 have el:=Zfy ⟨w.heap.size,0,none⟩ ⟨tb,0,none⟩ (((w.alloc (.cells #[.pointer (some ⟨tb,0,none⟩)] 146)).alloc (.cells #[.pointer (some ⟨7,146,none⟩),.pointer (some ⟨w.heap.size,0,none⟩),.int .u64 150] 206)).alloc (.cells #[.pointer (some ⟨7,146,none⟩),.pointer (some ⟨w.heap.size,0,none⟩),.int .u64 150] 206)) (by rw[World.cell?_alloc_lt _ _ ⟨w.heap.size,0,none⟩ (by simp only[World.size_alloc];omega)];simp)
 have hq4:((((w.alloc (.cells #[.pointer (some ⟨tb,0,none⟩)] 146)).alloc (.cells #[.pointer (some ⟨7,146,none⟩),.pointer (some ⟨w.heap.size,0,none⟩),.int .u64 150] 206)).alloc (.cells #[.pointer (some ⟨7,146,none⟩),.pointer (some ⟨w.heap.size,0,none⟩),.int .u64 150] 206)).alloc (.cells #[.int .i64 n,y] 145)).heap[tb]?=some (.cells #[o0,o1] 145 (0,0)):=by
  rw[Below.heap_alloc _ _ _ (by simp only[World.size_alloc];omega),Below.heap_alloc _ _ _ (by simp only[World.size_alloc];omega),Below.heap_alloc _ _ _ (by simp only[World.size_alloc];omega),Below.heap_alloc _ _ _ htl];exact hq
 have hnew:=heap_alloc_new (((w.alloc (.cells #[.pointer (some ⟨tb,0,none⟩)] 146)).alloc (.cells #[.pointer (some ⟨7,146,none⟩),.pointer (some ⟨w.heap.size,0,none⟩),.int .u64 150] 206)).alloc (.cells #[.pointer (some ⟨7,146,none⟩),.pointer (some ⟨w.heap.size,0,none⟩),.int .u64 150] 206)) (.cells #[.int .i64 n,y] 145)
 have st:=fa_setR tb (w.heap.size+1+1+1) n y o0 o1 ((((w.alloc (.cells #[.pointer (some ⟨tb,0,none⟩)] 146)).alloc (.cells #[.pointer (some ⟨7,146,none⟩),.pointer (some ⟨w.heap.size,0,none⟩),.int .u64 150] 206)).alloc (.cells #[.pointer (some ⟨7,146,none⟩),.pointer (some ⟨w.heap.size,0,none⟩),.int .u64 150] 206)).alloc (.cells #[.int .i64 n,y] 145)) hy1
  (by have:=Za hnew 0;simpa using this) (by have:=Za hnew 1;simpa using this)
  (Za hq4 0) (Za hq4 1) (Zd hq4 0) (Zd hq4 1)
 clear hq hq4 hnew hg
 go_enter Tryz.func91,Tryz.ntmps91
 go_wp2
 refine wp_loop_rounds 1 ?_
 rw[rounds_succ]
 go_wp2
 go_ret
 exact⟨rfl,rfl⟩
end
section
open Go.RowKit Go.Extern.Stop Go.Stop Go.Extern
theorem X9 (v:Value) (w:World):(Instr.typeAssert (.iface 145 v) 29 244 true).run Tryz.prog w=.ok (.tuple #[.nilIface,.bool false]) w:=run_typeAssert_lacksB Tryz.underlying244 (by kernel_rfl) (by kernel_rfl) v _ w
theorem Y7 (v:Value) (w:World):(Instr.typeAssert (.iface 145 v) 29 154 true).run Tryz.prog w=.ok (.tuple #[.iface 145 v,.bool true]) w:=by kernel_rfl
theorem Zas (v:Value) (w:World):(Instr.typeAssert (.iface 249 v) 29 244 true).run Tryz.prog w=.ok (.tuple #[.nilIface,.bool false]) w:=run_typeAssert_lacksB Tryz.underlying244 (by kernel_rfl) (by kernel_rfl) v _ w
theorem Zav (v:Value) (w:World):(Instr.typeAssert (.iface 249 v) 29 154 true).run Tryz.prog w=.ok (.tuple #[.iface 249 v,.bool true]) w:=by kernel_rfl
theorem as_P (n y at_:Int) (tb:Nat) (o0:Value) (w:World) (hg:Glob w) (hq:w.heap[tb]?=some (.cells #[o0] 30 (0,0))) :
 Calls Tryz.prog 91 #[.iface 145 (.agg #[.int .i64 n,.iface 30 (.int .i64 y)]),.iface 147 (.pointer (some ⟨tb,0,none⟩))] w fun e w'=>e=.returned (.bool true) ∧
  w'=((((((w.alloc (.cells #[.pointer (some ⟨tb,0,none⟩)] 147)).alloc (.cells #[.pointer (some ⟨7,147,none⟩),.pointer (some ⟨w.heap.size,0,none⟩),.int .u64 150] 206)).alloc (.cells #[.pointer (some ⟨7,147,none⟩),.pointer (some ⟨w.heap.size,0,none⟩),.int .u64 150] 206)).alloc (.cells #[.int .i64 n,.iface 30 (.int .i64 y)] 145)).alloc (.cells #[.int .i64 y] 30)).setCell ⟨tb,0,none⟩ (.int .i64 y)):=by
 have htl:tb<w.heap.size:=Zc hq
 have hgl:=hg.lt
 have h6:=Xq
 have h7:=Xr
 have h8:=Xs
 have h27:=Xm
 have h37:=Xo
 have h38:=Xp
 have h10:=Yv
 have h35:=Xn
 have h11:=JR
 have h12:=JS
 have f6:=ZbG
 have f7:=ZbE
 have k1:=Zbz
 have k2:=Zby
 have e1:=Zbu
 have i1:=Zbw
 have tO:=YK
 have tO2:=XO
 have tO3:=Zau
 have a1:=Zbr
 have a2:=Zbt
 have a3:=ZcU
 have v1:=ZbF
 have n8:=Zbx ⟨w.heap.size,0,none⟩ ⟨tb,0,none⟩ ((w.alloc (.cells #[.pointer (some ⟨tb,0,none⟩)] 147)).alloc (.cells #[.pointer (some ⟨7,147,none⟩),.pointer (some ⟨w.heap.size,0,none⟩),.int .u64 150] 206)) (by simp)
 have hg2:((w.alloc (.cells #[.pointer (some ⟨tb,0,none⟩)] 147)).alloc (.cells #[.pointer (some ⟨7,147,none⟩),.pointer (some ⟨w.heap.size,0,none⟩),.int .u64 150] 206)).cell? ⟨0,0,none⟩=some (.iface 149 (.agg #[.pointer (some ⟨7,29,none⟩)])):=by
  rw[World.cell?_alloc_lt _ _ ⟨0,0,none⟩ (by simp only[World.size_alloc];omega),World.cell?_alloc_lt _ _ ⟨0,0,none⟩ hgl];exact hg
 have hq1:((((w.alloc (.cells #[.pointer (some ⟨tb,0,none⟩)] 147)).alloc (.cells #[.pointer (some ⟨7,147,none⟩),.pointer (some ⟨w.heap.size,0,none⟩),.int .u64 150] 206)).alloc (.cells #[.pointer (some ⟨7,147,none⟩),.pointer (some ⟨w.heap.size,0,none⟩),.int .u64 150] 206)).alloc (.cells #[.int .i64 n,.iface 30 (.int .i64 y)] 145)).heap[w.heap.size]?=some (.cells #[.pointer (some ⟨tb,0,none⟩)] 147 (0,0)):=by
  rw[Below.heap_alloc _ _ _ (by simp only[World.size_alloc];omega),Below.heap_alloc _ _ _ (by simp only[World.size_alloc];omega),Below.heap_alloc _ _ _ (by simp only[World.size_alloc];omega),heap_alloc_new]
 have el:=Zbv ⟨w.heap.size,0,none⟩ ⟨tb,0,none⟩ ((((w.alloc (.cells #[.pointer (some ⟨tb,0,none⟩)] 147)).alloc (.cells #[.pointer (some ⟨7,147,none⟩),.pointer (some ⟨w.heap.size,0,none⟩),.int .u64 150] 206)).alloc (.cells #[.pointer (some ⟨7,147,none⟩),.pointer (some ⟨w.heap.size,0,none⟩),.int .u64 150] 206)).alloc (.cells #[.int .i64 n,.iface 30 (.int .i64 y)] 145)) (Za hq1 0)
 have hq4:(((((w.alloc (.cells #[.pointer (some ⟨tb,0,none⟩)] 147)).alloc (.cells #[.pointer (some ⟨7,147,none⟩),.pointer (some ⟨w.heap.size,0,none⟩),.int .u64 150] 206)).alloc (.cells #[.pointer (some ⟨7,147,none⟩),.pointer (some ⟨w.heap.size,0,none⟩),.int .u64 150] 206)).alloc (.cells #[.int .i64 n,.iface 30 (.int .i64 y)] 145)).alloc (.cells #[.int .i64 y] 30)).heap[tb]?=some (.cells #[o0] 30 (0,0)):=by
  rw[Below.heap_alloc _ _ _ (by simp only[World.size_alloc];omega),Below.heap_alloc _ _ _ (by simp only[World.size_alloc];omega),Below.heap_alloc _ _ _ (by simp only[World.size_alloc];omega),Below.heap_alloc _ _ _ (by simp only[World.size_alloc];omega),Below.heap_alloc _ _ _ htl];exact hq
 have hnew:=heap_alloc_new ((((w.alloc (.cells #[.pointer (some ⟨tb,0,none⟩)] 147)).alloc (.cells #[.pointer (some ⟨7,147,none⟩),.pointer (some ⟨w.heap.size,0,none⟩),.int .u64 150] 206)).alloc (.cells #[.pointer (some ⟨7,147,none⟩),.pointer (some ⟨w.heap.size,0,none⟩),.int .u64 150] 206)).alloc (.cells #[.int .i64 n,.iface 30 (.int .i64 y)] 145)) (.cells #[.int .i64 y] 30)
 have st:=ZbD ⟨tb,0,none⟩ ⟨w.heap.size+1+1+1+1,0,none⟩ y o0 (((((w.alloc (.cells #[.pointer (some ⟨tb,0,none⟩)] 147)).alloc (.cells #[.pointer (some ⟨7,147,none⟩),.pointer (some ⟨w.heap.size,0,none⟩),.int .u64 150] 206)).alloc (.cells #[.pointer (some ⟨7,147,none⟩),.pointer (some ⟨w.heap.size,0,none⟩),.int .u64 150] 206)).alloc (.cells #[.int .i64 n,.iface 30 (.int .i64 y)] 145)).alloc (.cells #[.int .i64 y] 30))
  (by have:=Za hnew 0;simpa using this) (Za hq4 0) (Zd hq4 0)
 clear hq hq1 hq4 hnew hg
 have na:=X9
 have nu:=Y7
 have na2:=Zas
 have nu2:=Zav
 go_enter Tryz.func91,Tryz.ntmps91
 go_wp2
 refine wp_loop_rounds 2 ?_
 rw[rounds_succ]
 go_wp2
 rw[rounds_succ]
 go_wp2
 go_ret
 exact⟨rfl,rfl⟩
theorem as_F (n y at_:Int) (tb:Nat) (o0:Value) (w:World) (hg:Glob w) (hq:w.heap[tb]?=some (.cells #[o0] 30 (0,0))) :
 Calls Tryz.prog 91 #[.iface 145 (.agg #[.int .i64 n,.iface 249 (.agg #[.int .i64 at_])]),.iface 147 (.pointer (some ⟨tb,0,none⟩))] w fun e w'=>e=.returned (.bool true) ∧
  w'=(((((((w.alloc (.cells #[.pointer (some ⟨tb,0,none⟩)] 147)).alloc (.cells #[.pointer (some ⟨7,147,none⟩),.pointer (some ⟨w.heap.size,0,none⟩),.int .u64 150] 206)).alloc (.cells #[.pointer (some ⟨7,147,none⟩),.pointer (some ⟨w.heap.size,0,none⟩),.int .u64 150] 206)).alloc (.cells #[.int .i64 n,.iface 249 (.agg #[.int .i64 at_])] 145)).alloc (.cells #[.int .i64 at_] 249)).alloc (.cells #[.int .i64 6] 30)).setCell ⟨tb,0,none⟩ (.int .i64 6)):=by
 have htl:tb<w.heap.size:=Zc hq
 have hgl:=hg.lt
 have h6:=Xq
 have h7:=Xr
 have h8:=Xs
 have h27:=Xm
 have h37:=Xo
 have h38:=Xp
 have h10:=Yv
 have h35:=Xn
 have h11:=JR
 have h12:=JS
 have f6:=ZbG
 have f7:=ZbE
 have k1:=Zbz
 have k2:=Zby
 have e1:=Zbu
 have i1:=Zbw
 have tO:=YK
 have tO2:=XO
 have tO3:=Zau
 have a1:=Zbr
 have a2:=Zbt
 have a3:=ZcU
 have v1:=ZbF
 have n8:=Zbx ⟨w.heap.size,0,none⟩ ⟨tb,0,none⟩ ((w.alloc (.cells #[.pointer (some ⟨tb,0,none⟩)] 147)).alloc (.cells #[.pointer (some ⟨7,147,none⟩),.pointer (some ⟨w.heap.size,0,none⟩),.int .u64 150] 206)) (by simp)
 have hg2:((w.alloc (.cells #[.pointer (some ⟨tb,0,none⟩)] 147)).alloc (.cells #[.pointer (some ⟨7,147,none⟩),.pointer (some ⟨w.heap.size,0,none⟩),.int .u64 150] 206)).cell? ⟨0,0,none⟩=some (.iface 149 (.agg #[.pointer (some ⟨7,29,none⟩)])):=by
  rw[World.cell?_alloc_lt _ _ ⟨0,0,none⟩ (by simp only[World.size_alloc];omega),World.cell?_alloc_lt _ _ ⟨0,0,none⟩ hgl];exact hg
 have hq1:(((((w.alloc (.cells #[.pointer (some ⟨tb,0,none⟩)] 147)).alloc (.cells #[.pointer (some ⟨7,147,none⟩),.pointer (some ⟨w.heap.size,0,none⟩),.int .u64 150] 206)).alloc (.cells #[.pointer (some ⟨7,147,none⟩),.pointer (some ⟨w.heap.size,0,none⟩),.int .u64 150] 206)).alloc (.cells #[.int .i64 n,.iface 249 (.agg #[.int .i64 at_])] 145)).alloc (.cells #[.int .i64 at_] 249)).heap[w.heap.size]?=some (.cells #[.pointer (some ⟨tb,0,none⟩)] 147 (0,0)):=by
  rw[Below.heap_alloc _ _ _ (by simp only[World.size_alloc];omega),Below.heap_alloc _ _ _ (by simp only[World.size_alloc];omega),Below.heap_alloc _ _ _ (by simp only[World.size_alloc];omega),Below.heap_alloc _ _ _ (by simp only[World.size_alloc];omega),heap_alloc_new]
 have el:=Zbv ⟨w.heap.size,0,none⟩ ⟨tb,0,none⟩ (((((w.alloc (.cells #[.pointer (some ⟨tb,0,none⟩)] 147)).alloc (.cells #[.pointer (some ⟨7,147,none⟩),.pointer (some ⟨w.heap.size,0,none⟩),.int .u64 150] 206)).alloc (.cells #[.pointer (some ⟨7,147,none⟩),.pointer (some ⟨w.heap.size,0,none⟩),.int .u64 150] 206)).alloc (.cells #[.int .i64 n,.iface 249 (.agg #[.int .i64 at_])] 145)).alloc (.cells #[.int .i64 at_] 249)) (Za hq1 0)
 have hq4:((((((w.alloc (.cells #[.pointer (some ⟨tb,0,none⟩)] 147)).alloc (.cells #[.pointer (some ⟨7,147,none⟩),.pointer (some ⟨w.heap.size,0,none⟩),.int .u64 150] 206)).alloc (.cells #[.pointer (some ⟨7,147,none⟩),.pointer (some ⟨w.heap.size,0,none⟩),.int .u64 150] 206)).alloc (.cells #[.int .i64 n,.iface 249 (.agg #[.int .i64 at_])] 145)).alloc (.cells #[.int .i64 at_] 249)).alloc (.cells #[.int .i64 6] 30)).heap[tb]?=some (.cells #[o0] 30 (0,0)):=by
  rw[Below.heap_alloc _ _ _ (by simp only[World.size_alloc];omega),Below.heap_alloc _ _ _ (by simp only[World.size_alloc];omega),Below.heap_alloc _ _ _ (by simp only[World.size_alloc];omega),Below.heap_alloc _ _ _ (by simp only[World.size_alloc];omega),Below.heap_alloc _ _ _ (by simp only[World.size_alloc];omega),Below.heap_alloc _ _ _ htl];exact hq
 have hnew:=heap_alloc_new (((((w.alloc (.cells #[.pointer (some ⟨tb,0,none⟩)] 147)).alloc (.cells #[.pointer (some ⟨7,147,none⟩),.pointer (some ⟨w.heap.size,0,none⟩),.int .u64 150] 206)).alloc (.cells #[.pointer (some ⟨7,147,none⟩),.pointer (some ⟨w.heap.size,0,none⟩),.int .u64 150] 206)).alloc (.cells #[.int .i64 n,.iface 249 (.agg #[.int .i64 at_])] 145)).alloc (.cells #[.int .i64 at_] 249)) (.cells #[.int .i64 6] 30)
 have st:=ZbD ⟨tb,0,none⟩ ⟨w.heap.size+1+1+1+1+1,0,none⟩ 6 o0 ((((((w.alloc (.cells #[.pointer (some ⟨tb,0,none⟩)] 147)).alloc (.cells #[.pointer (some ⟨7,147,none⟩),.pointer (some ⟨w.heap.size,0,none⟩),.int .u64 150] 206)).alloc (.cells #[.pointer (some ⟨7,147,none⟩),.pointer (some ⟨w.heap.size,0,none⟩),.int .u64 150] 206)).alloc (.cells #[.int .i64 n,.iface 249 (.agg #[.int .i64 at_])] 145)).alloc (.cells #[.int .i64 at_] 249)).alloc (.cells #[.int .i64 6] 30))
  (by have:=Za hnew 0;simpa using this) (Za hq4 0) (Zd hq4 0)
 clear hq hq1 hq4 hnew hg
 have na:=X9
 have nu:=Y7
 have na2:=Zas
 have nu2:=Zav
 go_enter Tryz.func91,Tryz.ntmps91
 go_wp2
 refine wp_loop_rounds 3 ?_
 rw[rounds_succ]
 go_wp2
 rw[rounds_succ]
 go_wp2
 rw[rounds_succ]
 go_wp2
 go_ret
 exact⟨rfl,rfl⟩
end
section
open Go.RowKit Go.Extern.Stop Go.Stop Go.Extern
theorem Zaw (t:Addr) (w:World):(ReflectliteValue.unpack (.iface 143 (.pointer (some t)))).run Tryz.prog w
 = .ok (.agg #[.pointer (some ⟨7,143,none⟩),.pointer (some ⟨w.heap.size,0,none⟩),.int .u64 150]) (w.alloc (.cells #[.pointer (some t)] 143)):=by kernel_rfl
theorem Zat (a : Addr) (w : World) : (ReflectliteValue.methodAny (ReflectliteValue.valueError "reflectlite.Value.Type" 0) (fun t _ _ _ => ReflectliteType.toType t) #[.agg #[.pointer (some ⟨7, 143, none⟩), .pointer (some a), .int .u64 150]]).run Tryz.prog w
 = .ok (.iface 149 (.agg #[.pointer (some ⟨7,143,none⟩)])) w:=by kernel_rfl
theorem Zar (w:World):((ReflectliteType.abiMethod fun t=>(fun a:Nat=>Value.int IntKind.u8 (a:Int)) <$> Rtype.kind t) #[.pointer (some ⟨7,143,none⟩)]).run Tryz.prog w=.ok (.int .u8 22) w:=by kernel_rfl
theorem Zaq (w:World):((ReflectliteType.abiMethod fun t=>(fun a:Nat=>Value.int IntKind.u8 (a:Int)) <$> Rtype.kind t) #[.pointer (some ⟨7,141,none⟩)]).run Tryz.prog w=.ok (.int .u8 25) w:=by kernel_rfl
theorem ZcY (a:Addr) (w:World):(ReflectliteValue.parts (.agg #[.pointer (some ⟨7,143,none⟩),.pointer (some a),.int .u64 150])).run Tryz.prog w=.ok (some (143,a,150)) w:=by kernel_rfl
theorem Zap (a p:Addr) (W:World) (ha:W.cell? a=some (.pointer (some p))) :
 (ReflectliteValue.method (ReflectliteValue.valueError "reflectlite.Value.IsNil" 0) ReflectliteValue.isNil #[.agg #[.pointer (some ⟨7, 143, none⟩), .pointer (some a), .int .u64 150]]).run Tryz.prog W = .ok (.bool false) W := by
 rw[rlm]
 simp only[Sem.run_bind,ZcY,Result.andThen]
 simp[ReflectliteValue.isNil,loadVar,isAgg,underlying,Tryz.underlying143,ha,Result.andThen]
theorem Zan (w:World):(ReflectliteType.method ReflectliteType.elem #[.agg #[.pointer (some ⟨7,143,none⟩)]]).run Tryz.prog w=.ok (.iface 149 (.agg #[.pointer (some ⟨7,141,none⟩)])) w:=by kernel_rfl
theorem Zao (w : World) : (ReflectliteType.relation "Implements" ReflectliteType.implements_ #[.agg #[.pointer (some ⟨7, 141, none⟩)], .iface 149 (.agg #[.pointer (some ⟨7, 29, none⟩)])]).run Tryz.prog w = .ok (.bool true) w := by kernel_rfl
theorem Zbs (w : World) : (ReflectliteType.relation "AssignableTo" ReflectliteType.assignableTo #[.agg #[.pointer (some ⟨7, 145, none⟩)], .iface 149 (.agg #[.pointer (some ⟨7, 141, none⟩)])]).run Tryz.prog w = .ok (.bool false) w := by kernel_rfl
theorem Zbq (w : World) : (ReflectliteType.relation "AssignableTo" ReflectliteType.assignableTo #[.agg #[.pointer (some ⟨7, 30, none⟩)], .iface 149 (.agg #[.pointer (some ⟨7, 141, none⟩)])]).run Tryz.prog w = .ok (.bool false) w := by kernel_rfl
theorem ZcT (w : World) : (ReflectliteType.relation "AssignableTo" ReflectliteType.assignableTo #[.agg #[.pointer (some ⟨7, 249, none⟩)], .iface 149 (.agg #[.pointer (some ⟨7, 141, none⟩)])]).run Tryz.prog w = .ok (.bool false) w := by kernel_rfl
theorem ZbA (v:Value) (w:World):(Instr.typeAssert (.iface 30 v) 29 244 true).run Tryz.prog w=.ok (.tuple #[.nilIface,.bool false]) w:=run_typeAssert_lacksB Tryz.underlying244 (by kernel_rfl) (by kernel_rfl) v _ w
theorem Ja (v:Value) (w:World):(Instr.typeAssert (.iface 30 v) 29 154 true).run Tryz.prog w=.ok (.tuple #[.nilIface,.bool false]) w:=run_typeAssert_lacksB Tryz.underlying154 (by kernel_rfl) (by kernel_rfl) v _ w
theorem Jb (v:Value) (w:World):(Instr.typeAssert (.iface 30 v) 29 156 true).run Tryz.prog w=.ok (.tuple #[.nilIface,.bool false]) w:=run_typeAssert_lacksB Tryz.underlying156 (by kernel_rfl) (by kernel_rfl) v _ w
theorem as_MP (n y:Int) (tb:Nat) (o0:Value) (w:World) (hg:Glob w) (hq:w.heap[tb]?=some (.cells #[o0] 141 (0,0))) :
 Calls Tryz.prog 91 #[.iface 145 (.agg #[.int .i64 n,.iface 30 (.int .i64 y)]),.iface 143 (.pointer (some ⟨tb,0,none⟩))] w fun e w'=>e=.returned (.bool false)∧Below w.heap.size w w':=by
 have htl:tb<w.heap.size:=Zc hq
 have hgl:=hg.lt
 have h6:=Xq
 have h7:=Xr
 have h8:=Xs
 have h27:=Xm
 have h37:=Xo
 have h38:=Xp
 have h10:=Yv
 have h35:=Xn
 have f6:=Zaw
 have f7:=Zat
 have k1:=Zar
 have k2:=Zaq
 have e1:=Zan
 have i1:=Zao
 have tO:=YK
 have tO2:=XO
 have tO3:=Zau
 have a1:=Zbq
 have a2:=Zbs
 have a3:=ZcT
 have n8:=Zap ⟨w.heap.size,0,none⟩ ⟨tb,0,none⟩ ((w.alloc (.cells #[.pointer (some ⟨tb,0,none⟩)] 143)).alloc (.cells #[.pointer (some ⟨7,143,none⟩),.pointer (some ⟨w.heap.size,0,none⟩),.int .u64 150] 206)) (by simp)
 have hg2:((w.alloc (.cells #[.pointer (some ⟨tb,0,none⟩)] 143)).alloc (.cells #[.pointer (some ⟨7,143,none⟩),.pointer (some ⟨w.heap.size,0,none⟩),.int .u64 150] 206)).cell? ⟨0,0,none⟩=some (.iface 149 (.agg #[.pointer (some ⟨7,29,none⟩)])):=by
  rw[World.cell?_alloc_lt _ _ ⟨0,0,none⟩ (by simp only[World.size_alloc];omega),World.cell?_alloc_lt _ _ ⟨0,0,none⟩ hgl];exact hg
 clear hq hg
 have na:=X9
 have nu:=Y7
 have na2:=Zas
 have nu2:=Zav
 have na3:=ZbA
 have nu3:=Ja
 have nu4:=Jb
 go_enter Tryz.func91,Tryz.ntmps91
 go_wp2
 refine wp_loop_rounds 2 ?_
 rw[rounds_succ]
 go_wp2
 rw[rounds_succ]
 go_wp2
 go_ret
 exact⟨rfl,by go_grown⟩
theorem as_MF (n at_:Int) (tb:Nat) (o0:Value) (w:World) (hg:Glob w) (hq:w.heap[tb]?=some (.cells #[o0] 141 (0,0))) :
 Calls Tryz.prog 91 #[.iface 145 (.agg #[.int .i64 n,.iface 249 (.agg #[.int .i64 at_])]),.iface 143 (.pointer (some ⟨tb,0,none⟩))] w fun e w'=>e=.returned (.bool false)∧Below w.heap.size w w':=by
 have htl:tb<w.heap.size:=Zc hq
 have hgl:=hg.lt
 have h6:=Xq
 have h7:=Xr
 have h8:=Xs
 have h27:=Xm
 have h37:=Xo
 have h38:=Xp
 have h10:=Yv
 have h35:=Xn
 have f6:=Zaw
 have f7:=Zat
 have k1:=Zar
 have k2:=Zaq
 have e1:=Zan
 have i1:=Zao
 have tO:=YK
 have tO2:=XO
 have tO3:=Zau
 have a1:=Zbq
 have a2:=Zbs
 have a3:=ZcT
 have n8:=Zap ⟨w.heap.size,0,none⟩ ⟨tb,0,none⟩ ((w.alloc (.cells #[.pointer (some ⟨tb,0,none⟩)] 143)).alloc (.cells #[.pointer (some ⟨7,143,none⟩),.pointer (some ⟨w.heap.size,0,none⟩),.int .u64 150] 206)) (by simp)
 have hg2:((w.alloc (.cells #[.pointer (some ⟨tb,0,none⟩)] 143)).alloc (.cells #[.pointer (some ⟨7,143,none⟩),.pointer (some ⟨w.heap.size,0,none⟩),.int .u64 150] 206)).cell? ⟨0,0,none⟩=some (.iface 149 (.agg #[.pointer (some ⟨7,29,none⟩)])):=by
  rw[World.cell?_alloc_lt _ _ ⟨0,0,none⟩ (by simp only[World.size_alloc];omega),World.cell?_alloc_lt _ _ ⟨0,0,none⟩ hgl];exact hg
 clear hq hg
 have na:=X9
 have nu:=Y7
 have na2:=Zas
 have nu2:=Zav
 have na3:=ZbA
 have nu3:=Ja
 have nu4:=Jb
 go_enter Tryz.func91,Tryz.ntmps91
 go_wp2
 refine wp_loop_rounds 3 ?_
 rw[rounds_succ]
 go_wp2
 rw[rounds_succ]
 go_wp2
 rw[rounds_succ]
 go_wp2
 go_ret
 exact⟨rfl,by go_grown⟩
end
end Go.Proofs.YtabogkonklplcaaGreatDoor
