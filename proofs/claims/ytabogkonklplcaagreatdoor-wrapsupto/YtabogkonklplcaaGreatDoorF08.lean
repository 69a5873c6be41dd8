import Derived.Test.YtabogkonklplcaaGreatDoorF05
import Derived.Test.YtabogkonklplcaaGreatDoorF07

/- errors.As at the targets that margin.fault has. -/
namespace Go.Proofs.YtabogkonklplcaaGreatDoor
open Go.RowKit Go.Extern.Stop Go.Stop Go.Extern
set_option linter.unusedSimpArgs false
set_option linter.unusedVariables false

/-- The variable errors.errorType holds the handle of 'error'. -/
def Glob (w : World) : Prop := w.cell? ⟨0, 0, none⟩ = some (.iface 149 (.agg #[.pointer (some ⟨7, 29, none⟩)]))
theorem Glob.lt {w : World} (h : Glob w) : 0 < w.heap.size := World.block_lt_of_cell? w _ h

set_option maxRecDepth 20000 in
set_option maxHeartbeats 8000000 in
theorem as_R (n : Int) (y : Value) (hy1 : y.oneCell' = true) (tb : Nat) (o0 o1 : Value) (w : World) (hg : Glob w) (hq : w.heap[tb]? = some (.cells #[o0, o1] 145 (0, 0))) :
    Calls Tryz.prog 91 #[.iface 145 (.agg #[.int .i64 n, y]), .iface 146 (.pointer (some ⟨tb, 0, none⟩))] w fun e w' => e = .returned (.bool true) ∧
      w' = ((((((w.alloc (.cells #[.pointer (some ⟨tb, 0, none⟩)] 146)).alloc (.cells #[.pointer (some ⟨7, 146, none⟩), .pointer (some ⟨w.heap.size, 0, none⟩), .int .u64 150] 206)).alloc (.cells #[.pointer (some ⟨7, 146, none⟩), .pointer (some ⟨w.heap.size, 0, none⟩), .int .u64 150] 206)).alloc (.cells #[.int .i64 n, y] 145)).setCell ⟨tb, 0, none⟩ (.int .i64 n)).setCell ⟨tb, 1, none⟩ y) := by
  have htl : tb < w.heap.size := heap_lt hq
  have hgl := hg.lt
  have h6 := fx_h6
  have h7 := fx_h7
  have h8 := fx_h8
  have h27 := fx_h27
  have h37 := fx_h37
  have h38 := fx_h38
  have h10 := fx_h10
  have h35 := fx_h35
  have h11 := fx_h11
  have h12 := fx_h12
  have f6 := fa_valueOfR
  have f7 := fa_typeR
  have k1 := fa_kindPR
  have k2 := fa_kindR
  have e1 := fa_elemR
  have i1 := fa_implR
  have tO := fa_typeOfR
  have a1 := fa_asgRR
  have v1 := fa_valR
  have n8 := fa_isNilR ⟨w.heap.size, 0, none⟩ ⟨tb, 0, none⟩ ((w.alloc (.cells #[.pointer (some ⟨tb, 0, none⟩)] 146)).alloc (.cells #[.pointer (some ⟨7, 146, none⟩), .pointer (some ⟨w.heap.size, 0, none⟩), .int .u64 150] 206)) (by simp)
  have hg2 : ((w.alloc (.cells #[.pointer (some ⟨tb, 0, none⟩)] 146)).alloc (.cells #[.pointer (some ⟨7, 146, none⟩), .pointer (some ⟨w.heap.size, 0, none⟩), .int .u64 150] 206)).cell? ⟨0, 0, none⟩ = some (.iface 149 (.agg #[.pointer (some ⟨7, 29, none⟩)])) := by
    rw [World.cell?_alloc_lt _ _ ⟨0, 0, none⟩ (by simp only [World.size_alloc]; omega), World.cell?_alloc_lt _ _ ⟨0, 0, none⟩ hgl]; exact hg
  have el := fa_elemVR ⟨w.heap.size, 0, none⟩ ⟨tb, 0, none⟩ (((w.alloc (.cells #[.pointer (some ⟨tb, 0, none⟩)] 146)).alloc (.cells #[.pointer (some ⟨7, 146, none⟩), .pointer (some ⟨w.heap.size, 0, none⟩), .int .u64 150] 206)).alloc (.cells #[.pointer (some ⟨7, 146, none⟩), .pointer (some ⟨w.heap.size, 0, none⟩), .int .u64 150] 206)) (by rw [World.cell?_alloc_lt _ _ ⟨w.heap.size, 0, none⟩ (by simp only [World.size_alloc]; omega)]; simp)
  have hq4 : ((((w.alloc (.cells #[.pointer (some ⟨tb, 0, none⟩)] 146)).alloc (.cells #[.pointer (some ⟨7, 146, none⟩), .pointer (some ⟨w.heap.size, 0, none⟩), .int .u64 150] 206)).alloc (.cells #[.pointer (some ⟨7, 146, none⟩), .pointer (some ⟨w.heap.size, 0, none⟩), .int .u64 150] 206)).alloc (.cells #[.int .i64 n, y] 145)).heap[tb]? = some (.cells #[o0, o1] 145 (0, 0)) := by
    rw [Below.heap_alloc _ _ _ (by simp only [World.size_alloc]; omega), Below.heap_alloc _ _ _ (by simp only [World.size_alloc]; omega), Below.heap_alloc _ _ _ (by simp only [World.size_alloc]; omega), Below.heap_alloc _ _ _ htl]; exact hq
  have hnew := heap_alloc_new (((w.alloc (.cells #[.pointer (some ⟨tb, 0, none⟩)] 146)).alloc (.cells #[.pointer (some ⟨7, 146, none⟩), .pointer (some ⟨w.heap.size, 0, none⟩), .int .u64 150] 206)).alloc (.cells #[.pointer (some ⟨7, 146, none⟩), .pointer (some ⟨w.heap.size, 0, none⟩), .int .u64 150] 206)) (.cells #[.int .i64 n, y] 145)
  have st := fa_setR tb (w.heap.size + 1 + 1 + 1) n y o0 o1 ((((w.alloc (.cells #[.pointer (some ⟨tb, 0, none⟩)] 146)).alloc (.cells #[.pointer (some ⟨7, 146, none⟩), .pointer (some ⟨w.heap.size, 0, none⟩), .int .u64 150] 206)).alloc (.cells #[.pointer (some ⟨7, 146, none⟩), .pointer (some ⟨w.heap.size, 0, none⟩), .int .u64 150] 206)).alloc (.cells #[.int .i64 n, y] 145)) hy1
    (by have := cell_of_heap hnew 0; simpa using this) (by have := cell_of_heap hnew 1; simpa using this)
    (cell_of_heap hq4 0) (cell_of_heap hq4 1) (frozen_of_heap hq4 0) (frozen_of_heap hq4 1)
  clear hq hq4 hnew hg
  go_enter Tryz.func91, Tryz.ntmps91
  go_wp2
  refine wp_loop_rounds 1 ?_
  rw [rounds_succ]
  go_wp2
  go_ret
  exact ⟨rfl, rfl⟩

end Go.Proofs.YtabogkonklplcaaGreatDoor

/- errors.As at the targets that margin.fault has, 2. -/
namespace Go.Proofs.YtabogkonklplcaaGreatDoor
open Go.RowKit Go.Extern.Stop Go.Stop Go.Extern
set_option linter.unusedSimpArgs false
set_option linter.unusedVariables false

theorem fa_noAsR (v : Value) (w : World) : (Instr.typeAssert (.iface 145 v) 29 244 true).run Tryz.prog w = .ok (.tuple #[.nilIface, .bool false]) w := run_typeAssert_lacksB Tryz.underlying244 (by kernel_rfl) (by kernel_rfl) v _ w
theorem fa_unwR (v : Value) (w : World) : (Instr.typeAssert (.iface 145 v) 29 154 true).run Tryz.prog w = .ok (.tuple #[.iface 145 v, .bool true]) w := by kernel_rfl
theorem fa_noAsF (v : Value) (w : World) : (Instr.typeAssert (.iface 249 v) 29 244 true).run Tryz.prog w = .ok (.tuple #[.nilIface, .bool false]) w := run_typeAssert_lacksB Tryz.underlying244 (by kernel_rfl) (by kernel_rfl) v _ w
theorem fa_unwF (v : Value) (w : World) : (Instr.typeAssert (.iface 249 v) 29 154 true).run Tryz.prog w = .ok (.tuple #[.iface 249 v, .bool true]) w := by kernel_rfl
set_option maxRecDepth 20000 in
set_option maxHeartbeats 8000000 in
theorem as_P (n y at_ : Int) (tb : Nat) (o0 : Value) (w : World) (hg : Glob w) (hq : w.heap[tb]? = some (.cells #[o0] 30 (0, 0))) :
    Calls Tryz.prog 91 #[.iface 145 (.agg #[.int .i64 n, .iface 30 (.int .i64 y)]), .iface 147 (.pointer (some ⟨tb, 0, none⟩))] w fun e w' => e = .returned (.bool true) ∧
      w' = ((((((w.alloc (.cells #[.pointer (some ⟨tb, 0, none⟩)] 147)).alloc (.cells #[.pointer (some ⟨7, 147, none⟩), .pointer (some ⟨w.heap.size, 0, none⟩), .int .u64 150] 206)).alloc (.cells #[.pointer (some ⟨7, 147, none⟩), .pointer (some ⟨w.heap.size, 0, none⟩), .int .u64 150] 206)).alloc (.cells #[.int .i64 n, .iface 30 (.int .i64 y)] 145)).alloc (.cells #[.int .i64 y] 30)).setCell ⟨tb, 0, none⟩ (.int .i64 y)) := by
  have htl : tb < w.heap.size := heap_lt hq
  have hgl := hg.lt
  have h6 := fx_h6
  have h7 := fx_h7
  have h8 := fx_h8
  have h27 := fx_h27
  have h37 := fx_h37
  have h38 := fx_h38
  have h10 := fx_h10
  have h35 := fx_h35
  have h11 := fx_h11
  have h12 := fx_h12
  have f6 := fa_valueOfP
  have f7 := fa_typeP
  have k1 := fa_kindPP
  have k2 := fa_kindP
  have e1 := fa_elemP
  have i1 := fa_implP
  have tO := fa_typeOfP
  have tO2 := fa_typeOfR
  have tO3 := fa_typeOfF
  have a1 := fa_asgPP
  have a2 := fa_asgRP
  have a3 := fa_asgFP
  have v1 := fa_valP
  have n8 := fa_isNilP ⟨w.heap.size, 0, none⟩ ⟨tb, 0, none⟩ ((w.alloc (.cells #[.pointer (some ⟨tb, 0, none⟩)] 147)).alloc (.cells #[.pointer (some ⟨7, 147, none⟩), .pointer (some ⟨w.heap.size, 0, none⟩), .int .u64 150] 206)) (by simp)
  have hg2 : ((w.alloc (.cells #[.pointer (some ⟨tb, 0, none⟩)] 147)).alloc (.cells #[.pointer (some ⟨7, 147, none⟩), .pointer (some ⟨w.heap.size, 0, none⟩), .int .u64 150] 206)).cell? ⟨0, 0, none⟩ = some (.iface 149 (.agg #[.pointer (some ⟨7, 29, none⟩)])) := by
    rw [World.cell?_alloc_lt _ _ ⟨0, 0, none⟩ (by simp only [World.size_alloc]; omega), World.cell?_alloc_lt _ _ ⟨0, 0, none⟩ hgl]; exact hg
  have hq1 : ((((w.alloc (.cells #[.pointer (some ⟨tb, 0, none⟩)] 147)).alloc (.cells #[.pointer (some ⟨7, 147, none⟩), .pointer (some ⟨w.heap.size, 0, none⟩), .int .u64 150] 206)).alloc (.cells #[.pointer (some ⟨7, 147, none⟩), .pointer (some ⟨w.heap.size, 0, none⟩), .int .u64 150] 206)).alloc (.cells #[.int .i64 n, .iface 30 (.int .i64 y)] 145)).heap[w.heap.size]? = some (.cells #[.pointer (some ⟨tb, 0, none⟩)] 147 (0, 0)) := by
    rw [Below.heap_alloc _ _ _ (by simp only [World.size_alloc]; omega), Below.heap_alloc _ _ _ (by simp only [World.size_alloc]; omega), Below.heap_alloc _ _ _ (by simp only [World.size_alloc]; omega), heap_alloc_new]
  have el := fa_elemVP ⟨w.heap.size, 0, none⟩ ⟨tb, 0, none⟩ ((((w.alloc (.cells #[.pointer (some ⟨tb, 0, none⟩)] 147)).alloc (.cells #[.pointer (some ⟨7, 147, none⟩), .pointer (some ⟨w.heap.size, 0, none⟩), .int .u64 150] 206)).alloc (.cells #[.pointer (some ⟨7, 147, none⟩), .pointer (some ⟨w.heap.size, 0, none⟩), .int .u64 150] 206)).alloc (.cells #[.int .i64 n, .iface 30 (.int .i64 y)] 145)) (cell_of_heap hq1 0)
  have hq4 : (((((w.alloc (.cells #[.pointer (some ⟨tb, 0, none⟩)] 147)).alloc (.cells #[.pointer (some ⟨7, 147, none⟩), .pointer (some ⟨w.heap.size, 0, none⟩), .int .u64 150] 206)).alloc (.cells #[.pointer (some ⟨7, 147, none⟩), .pointer (some ⟨w.heap.size, 0, none⟩), .int .u64 150] 206)).alloc (.cells #[.int .i64 n, .iface 30 (.int .i64 y)] 145)).alloc (.cells #[.int .i64 y] 30)).heap[tb]? = some (.cells #[o0] 30 (0, 0)) := by
    rw [Below.heap_alloc _ _ _ (by simp only [World.size_alloc]; omega), Below.heap_alloc _ _ _ (by simp only [World.size_alloc]; omega), Below.heap_alloc _ _ _ (by simp only [World.size_alloc]; omega), Below.heap_alloc _ _ _ (by simp only [World.size_alloc]; omega), Below.heap_alloc _ _ _ htl]; exact hq
  have hnew := heap_alloc_new ((((w.alloc (.cells #[.pointer (some ⟨tb, 0, none⟩)] 147)).alloc (.cells #[.pointer (some ⟨7, 147, none⟩), .pointer (some ⟨w.heap.size, 0, none⟩), .int .u64 150] 206)).alloc (.cells #[.pointer (some ⟨7, 147, none⟩), .pointer (some ⟨w.heap.size, 0, none⟩), .int .u64 150] 206)).alloc (.cells #[.int .i64 n, .iface 30 (.int .i64 y)] 145)) (.cells #[.int .i64 y] 30)
  have st := fa_setP ⟨tb, 0, none⟩ ⟨w.heap.size + 1 + 1 + 1 + 1, 0, none⟩ y o0 (((((w.alloc (.cells #[.pointer (some ⟨tb, 0, none⟩)] 147)).alloc (.cells #[.pointer (some ⟨7, 147, none⟩), .pointer (some ⟨w.heap.size, 0, none⟩), .int .u64 150] 206)).alloc (.cells #[.pointer (some ⟨7, 147, none⟩), .pointer (some ⟨w.heap.size, 0, none⟩), .int .u64 150] 206)).alloc (.cells #[.int .i64 n, .iface 30 (.int .i64 y)] 145)).alloc (.cells #[.int .i64 y] 30))
    (by have := cell_of_heap hnew 0; simpa using this) (cell_of_heap hq4 0) (frozen_of_heap hq4 0)
  clear hq hq1 hq4 hnew hg
  have na := fa_noAsR
  have nu := fa_unwR
  have na2 := fa_noAsF
  have nu2 := fa_unwF
  go_enter Tryz.func91, Tryz.ntmps91
  go_wp2
  refine wp_loop_rounds 2 ?_
  rw [rounds_succ]
  go_wp2
  rw [rounds_succ]
  go_wp2
  go_ret
  exact ⟨rfl, rfl⟩

set_option maxRecDepth 20000 in
set_option maxHeartbeats 8000000 in
theorem as_F (n y at_ : Int) (tb : Nat) (o0 : Value) (w : World) (hg : Glob w) (hq : w.heap[tb]? = some (.cells #[o0] 30 (0, 0))) :
    Calls Tryz.prog 91 #[.iface 145 (.agg #[.int .i64 n, .iface 249 (.agg #[.int .i64 at_])]), .iface 147 (.pointer (some ⟨tb, 0, none⟩))] w fun e w' => e = .returned (.bool true) ∧
      w' = (((((((w.alloc (.cells #[.pointer (some ⟨tb, 0, none⟩)] 147)).alloc (.cells #[.pointer (some ⟨7, 147, none⟩), .pointer (some ⟨w.heap.size, 0, none⟩), .int .u64 150] 206)).alloc (.cells #[.pointer (some ⟨7, 147, none⟩), .pointer (some ⟨w.heap.size, 0, none⟩), .int .u64 150] 206)).alloc (.cells #[.int .i64 n, .iface 249 (.agg #[.int .i64 at_])] 145)).alloc (.cells #[.int .i64 at_] 249)).alloc (.cells #[.int .i64 6] 30)).setCell ⟨tb, 0, none⟩ (.int .i64 6)) := by
  have htl : tb < w.heap.size := heap_lt hq
  have hgl := hg.lt
  have h6 := fx_h6
  have h7 := fx_h7
  have h8 := fx_h8
  have h27 := fx_h27
  have h37 := fx_h37
  have h38 := fx_h38
  have h10 := fx_h10
  have h35 := fx_h35
  have h11 := fx_h11
  have h12 := fx_h12
  have f6 := fa_valueOfP
  have f7 := fa_typeP
  have k1 := fa_kindPP
  have k2 := fa_kindP
  have e1 := fa_elemP
  have i1 := fa_implP
  have tO := fa_typeOfP
  have tO2 := fa_typeOfR
  have tO3 := fa_typeOfF
  have a1 := fa_asgPP
  have a2 := fa_asgRP
  have a3 := fa_asgFP
  have v1 := fa_valP
  have n8 := fa_isNilP ⟨w.heap.size, 0, none⟩ ⟨tb, 0, none⟩ ((w.alloc (.cells #[.pointer (some ⟨tb, 0, none⟩)] 147)).alloc (.cells #[.pointer (some ⟨7, 147, none⟩), .pointer (some ⟨w.heap.size, 0, none⟩), .int .u64 150] 206)) (by simp)
  have hg2 : ((w.alloc (.cells #[.pointer (some ⟨tb, 0, none⟩)] 147)).alloc (.cells #[.pointer (some ⟨7, 147, none⟩), .pointer (some ⟨w.heap.size, 0, none⟩), .int .u64 150] 206)).cell? ⟨0, 0, none⟩ = some (.iface 149 (.agg #[.pointer (some ⟨7, 29, none⟩)])) := by
    rw [World.cell?_alloc_lt _ _ ⟨0, 0, none⟩ (by simp only [World.size_alloc]; omega), World.cell?_alloc_lt _ _ ⟨0, 0, none⟩ hgl]; exact hg
  have hq1 : (((((w.alloc (.cells #[.pointer (some ⟨tb, 0, none⟩)] 147)).alloc (.cells #[.pointer (some ⟨7, 147, none⟩), .pointer (some ⟨w.heap.size, 0, none⟩), .int .u64 150] 206)).alloc (.cells #[.pointer (some ⟨7, 147, none⟩), .pointer (some ⟨w.heap.size, 0, none⟩), .int .u64 150] 206)).alloc (.cells #[.int .i64 n, .iface 249 (.agg #[.int .i64 at_])] 145)).alloc (.cells #[.int .i64 at_] 249)).heap[w.heap.size]? = some (.cells #[.pointer (some ⟨tb, 0, none⟩)] 147 (0, 0)) := by
    rw [Below.heap_alloc _ _ _ (by simp only [World.size_alloc]; omega), Below.heap_alloc _ _ _ (by simp only [World.size_alloc]; omega), Below.heap_alloc _ _ _ (by simp only [World.size_alloc]; omega), Below.heap_alloc _ _ _ (by simp only [World.size_alloc]; omega), heap_alloc_new]
  have el := fa_elemVP ⟨w.heap.size, 0, none⟩ ⟨tb, 0, none⟩ (((((w.alloc (.cells #[.pointer (some ⟨tb, 0, none⟩)] 147)).alloc (.cells #[.pointer (some ⟨7, 147, none⟩), .pointer (some ⟨w.heap.size, 0, none⟩), .int .u64 150] 206)).alloc (.cells #[.pointer (some ⟨7, 147, none⟩), .pointer (some ⟨w.heap.size, 0, none⟩), .int .u64 150] 206)).alloc (.cells #[.int .i64 n, .iface 249 (.agg #[.int .i64 at_])] 145)).alloc (.cells #[.int .i64 at_] 249)) (cell_of_heap hq1 0)
  have hq4 : ((((((w.alloc (.cells #[.pointer (some ⟨tb, 0, none⟩)] 147)).alloc (.cells #[.pointer (some ⟨7, 147, none⟩), .pointer (some ⟨w.heap.size, 0, none⟩), .int .u64 150] 206)).alloc (.cells #[.pointer (some ⟨7, 147, none⟩), .pointer (some ⟨w.heap.size, 0, none⟩), .int .u64 150] 206)).alloc (.cells #[.int .i64 n, .iface 249 (.agg #[.int .i64 at_])] 145)).alloc (.cells #[.int .i64 at_] 249)).alloc (.cells #[.int .i64 6] 30)).heap[tb]? = some (.cells #[o0] 30 (0, 0)) := by
    rw [Below.heap_alloc _ _ _ (by simp only [World.size_alloc]; omega), Below.heap_alloc _ _ _ (by simp only [World.size_alloc]; omega), Below.heap_alloc _ _ _ (by simp only [World.size_alloc]; omega), Below.heap_alloc _ _ _ (by simp only [World.size_alloc]; omega), Below.heap_alloc _ _ _ (by simp only [World.size_alloc]; omega), Below.heap_alloc _ _ _ htl]; exact hq
  have hnew := heap_alloc_new (((((w.alloc (.cells #[.pointer (some ⟨tb, 0, none⟩)] 147)).alloc (.cells #[.pointer (some ⟨7, 147, none⟩), .pointer (some ⟨w.heap.size, 0, none⟩), .int .u64 150] 206)).alloc (.cells #[.pointer (some ⟨7, 147, none⟩), .pointer (some ⟨w.heap.size, 0, none⟩), .int .u64 150] 206)).alloc (.cells #[.int .i64 n, .iface 249 (.agg #[.int .i64 at_])] 145)).alloc (.cells #[.int .i64 at_] 249)) (.cells #[.int .i64 6] 30)
  have st := fa_setP ⟨tb, 0, none⟩ ⟨w.heap.size + 1 + 1 + 1 + 1 + 1, 0, none⟩ 6 o0 ((((((w.alloc (.cells #[.pointer (some ⟨tb, 0, none⟩)] 147)).alloc (.cells #[.pointer (some ⟨7, 147, none⟩), .pointer (some ⟨w.heap.size, 0, none⟩), .int .u64 150] 206)).alloc (.cells #[.pointer (some ⟨7, 147, none⟩), .pointer (some ⟨w.heap.size, 0, none⟩), .int .u64 150] 206)).alloc (.cells #[.int .i64 n, .iface 249 (.agg #[.int .i64 at_])] 145)).alloc (.cells #[.int .i64 at_] 249)).alloc (.cells #[.int .i64 6] 30))
    (by have := cell_of_heap hnew 0; simpa using this) (cell_of_heap hq4 0) (frozen_of_heap hq4 0)
  clear hq hq1 hq4 hnew hg
  have na := fa_noAsR
  have nu := fa_unwR
  have na2 := fa_noAsF
  have nu2 := fa_unwF
  go_enter Tryz.func91, Tryz.ntmps91
  go_wp2
  refine wp_loop_rounds 3 ?_
  rw [rounds_succ]
  go_wp2
  rw [rounds_succ]
  go_wp2
  rw [rounds_succ]
  go_wp2
  go_ret
  exact ⟨rfl, rfl⟩

end Go.Proofs.YtabogkonklplcaaGreatDoor

/- errors.As at *ranges.Missing: what package tree answers is none. -/
namespace Go.Proofs.YtabogkonklplcaaGreatDoor
open Go.RowKit Go.Extern.Stop Go.Stop Go.Extern
set_option linter.unusedSimpArgs false
set_option linter.unusedVariables false

theorem fa_valueOfM (t : Addr) (w : World) : (ReflectliteValue.unpack (.iface 143 (.pointer (some t)))).run Tryz.prog w
    = .ok (.agg #[.pointer (some ⟨7, 143, none⟩), .pointer (some ⟨w.heap.size, 0, none⟩), .int .u64 150]) (w.alloc (.cells #[.pointer (some t)] 143)) := by kernel_rfl
theorem fa_typeM (a : Addr) (w : World) : (ReflectliteValue.methodAny (ReflectliteValue.valueError "reflectlite.Value.Type" 0) (fun t _ _ _ => ReflectliteType.toType t) #[.agg #[.pointer (some ⟨7, 143, none⟩), .pointer (some a), .int .u64 150]]).run Tryz.prog w
    = .ok (.iface 149 (.agg #[.pointer (some ⟨7, 143, none⟩)])) w := by kernel_rfl
theorem fa_kindPM (w : World) : ((ReflectliteType.abiMethod fun t => (fun a : Nat => Value.int IntKind.u8 (a : Int)) <$> Rtype.kind t) #[.pointer (some ⟨7, 143, none⟩)]).run Tryz.prog w = .ok (.int .u8 22) w := by kernel_rfl
theorem fa_kindM (w : World) : ((ReflectliteType.abiMethod fun t => (fun a : Nat => Value.int IntKind.u8 (a : Int)) <$> Rtype.kind t) #[.pointer (some ⟨7, 141, none⟩)]).run Tryz.prog w = .ok (.int .u8 25) w := by kernel_rfl
theorem fa_partsM (a : Addr) (w : World) : (ReflectliteValue.parts (.agg #[.pointer (some ⟨7, 143, none⟩), .pointer (some a), .int .u64 150])).run Tryz.prog w = .ok (some (143, a, 150)) w := by kernel_rfl
theorem fa_isNilM (a p : Addr) (W : World) (ha : W.cell? a = some (.pointer (some p))) :
    (ReflectliteValue.method (ReflectliteValue.valueError "reflectlite.Value.IsNil" 0) ReflectliteValue.isNil #[.agg #[.pointer (some ⟨7, 143, none⟩), .pointer (some a), .int .u64 150]]).run Tryz.prog W = .ok (.bool false) W := by
  rw [rlm]
  simp only [Sem.run_bind, fa_partsM, Result.andThen]
  simp [ReflectliteValue.isNil, loadVar, isAgg, underlying, Tryz.underlying143, ha, Result.andThen]
theorem fa_elemM (w : World) : (ReflectliteType.method ReflectliteType.elem #[.agg #[.pointer (some ⟨7, 143, none⟩)]]).run Tryz.prog w = .ok (.iface 149 (.agg #[.pointer (some ⟨7, 141, none⟩)])) w := by kernel_rfl
theorem fa_implM (w : World) : (ReflectliteType.relation "Implements" ReflectliteType.implements_ #[.agg #[.pointer (some ⟨7, 141, none⟩)], .iface 149 (.agg #[.pointer (some ⟨7, 29, none⟩)])]).run Tryz.prog w = .ok (.bool true) w := by kernel_rfl
theorem fa_asgRM (w : World) : (ReflectliteType.relation "AssignableTo" ReflectliteType.assignableTo #[.agg #[.pointer (some ⟨7, 145, none⟩)], .iface 149 (.agg #[.pointer (some ⟨7, 141, none⟩)])]).run Tryz.prog w = .ok (.bool false) w := by kernel_rfl
theorem fa_asgPM (w : World) : (ReflectliteType.relation "AssignableTo" ReflectliteType.assignableTo #[.agg #[.pointer (some ⟨7, 30, none⟩)], .iface 149 (.agg #[.pointer (some ⟨7, 141, none⟩)])]).run Tryz.prog w = .ok (.bool false) w := by kernel_rfl
theorem fa_asgFM (w : World) : (ReflectliteType.relation "AssignableTo" ReflectliteType.assignableTo #[.agg #[.pointer (some ⟨7, 249, none⟩)], .iface 149 (.agg #[.pointer (some ⟨7, 141, none⟩)])]).run Tryz.prog w = .ok (.bool false) w := by kernel_rfl
theorem fa_noAsP (v : Value) (w : World) : (Instr.typeAssert (.iface 30 v) 29 244 true).run Tryz.prog w = .ok (.tuple #[.nilIface, .bool false]) w := run_typeAssert_lacksB Tryz.underlying244 (by kernel_rfl) (by kernel_rfl) v _ w
theorem fa_noUnwP (v : Value) (w : World) : (Instr.typeAssert (.iface 30 v) 29 154 true).run Tryz.prog w = .ok (.tuple #[.nilIface, .bool false]) w := run_typeAssert_lacksB Tryz.underlying154 (by kernel_rfl) (by kernel_rfl) v _ w
theorem fa_noUnwsP (v : Value) (w : World) : (Instr.typeAssert (.iface 30 v) 29 156 true).run Tryz.prog w = .ok (.tuple #[.nilIface, .bool false]) w := run_typeAssert_lacksB Tryz.underlying156 (by kernel_rfl) (by kernel_rfl) v _ w

set_option maxRecDepth 20000 in
set_option maxHeartbeats 8000000 in
theorem as_MP (n y : Int) (tb : Nat) (o0 : Value) (w : World) (hg : Glob w) (hq : w.heap[tb]? = some (.cells #[o0] 141 (0, 0))) :
    Calls Tryz.prog 91 #[.iface 145 (.agg #[.int .i64 n, .iface 30 (.int .i64 y)]), .iface 143 (.pointer (some ⟨tb, 0, none⟩))] w fun e w' => e = .returned (.bool false) ∧ Below w.heap.size w w' := by
  have htl : tb < w.heap.size := heap_lt hq
  have hgl := hg.lt
  have h6 := fx_h6
  have h7 := fx_h7
  have h8 := fx_h8
  have h27 := fx_h27
  have h37 := fx_h37
  have h38 := fx_h38
  have h10 := fx_h10
  have h35 := fx_h35
  have f6 := fa_valueOfM
  have f7 := fa_typeM
  have k1 := fa_kindPM
  have k2 := fa_kindM
  have e1 := fa_elemM
  have i1 := fa_implM
  have tO := fa_typeOfP
  have tO2 := fa_typeOfR
  have tO3 := fa_typeOfF
  have a1 := fa_asgPM
  have a2 := fa_asgRM
  have a3 := fa_asgFM
  have n8 := fa_isNilM ⟨w.heap.size, 0, none⟩ ⟨tb, 0, none⟩ ((w.alloc (.cells #[.pointer (some ⟨tb, 0, none⟩)] 143)).alloc (.cells #[.pointer (some ⟨7, 143, none⟩), .pointer (some ⟨w.heap.size, 0, none⟩), .int .u64 150] 206)) (by simp)
  have hg2 : ((w.alloc (.cells #[.pointer (some ⟨tb, 0, none⟩)] 143)).alloc (.cells #[.pointer (some ⟨7, 143, none⟩), .pointer (some ⟨w.heap.size, 0, none⟩), .int .u64 150] 206)).cell? ⟨0, 0, none⟩ = some (.iface 149 (.agg #[.pointer (some ⟨7, 29, none⟩)])) := by
    rw [World.cell?_alloc_lt _ _ ⟨0, 0, none⟩ (by simp only [World.size_alloc]; omega), World.cell?_alloc_lt _ _ ⟨0, 0, none⟩ hgl]; exact hg
  clear hq hg
  have na := fa_noAsR
  have nu := fa_unwR
  have na2 := fa_noAsF
  have nu2 := fa_unwF
  have na3 := fa_noAsP
  have nu3 := fa_noUnwP
  have nu4 := fa_noUnwsP
  go_enter Tryz.func91, Tryz.ntmps91
  go_wp2
  refine wp_loop_rounds 2 ?_
  rw [rounds_succ]
  go_wp2
  rw [rounds_succ]
  go_wp2
  go_ret
  exact ⟨rfl, by go_grown⟩

set_option maxRecDepth 20000 in
set_option maxHeartbeats 8000000 in
theorem as_MF (n at_ : Int) (tb : Nat) (o0 : Value) (w : World) (hg : Glob w) (hq : w.heap[tb]? = some (.cells #[o0] 141 (0, 0))) :
    Calls Tryz.prog 91 #[.iface 145 (.agg #[.int .i64 n, .iface 249 (.agg #[.int .i64 at_])]), .iface 143 (.pointer (some ⟨tb, 0, none⟩))] w fun e w' => e = .returned (.bool false) ∧ Below w.heap.size w w' := by
  have htl : tb < w.heap.size := heap_lt hq
  have hgl := hg.lt
  have h6 := fx_h6
  have h7 := fx_h7
  have h8 := fx_h8
  have h27 := fx_h27
  have h37 := fx_h37
  have h38 := fx_h38
  have h10 := fx_h10
  have h35 := fx_h35
  have f6 := fa_valueOfM
  have f7 := fa_typeM
  have k1 := fa_kindPM
  have k2 := fa_kindM
  have e1 := fa_elemM
  have i1 := fa_implM
  have tO := fa_typeOfP
  have tO2 := fa_typeOfR
  have tO3 := fa_typeOfF
  have a1 := fa_asgPM
  have a2 := fa_asgRM
  have a3 := fa_asgFM
  have n8 := fa_isNilM ⟨w.heap.size, 0, none⟩ ⟨tb, 0, none⟩ ((w.alloc (.cells #[.pointer (some ⟨tb, 0, none⟩)] 143)).alloc (.cells #[.pointer (some ⟨7, 143, none⟩), .pointer (some ⟨w.heap.size, 0, none⟩), .int .u64 150] 206)) (by simp)
  have hg2 : ((w.alloc (.cells #[.pointer (some ⟨tb, 0, none⟩)] 143)).alloc (.cells #[.pointer (some ⟨7, 143, none⟩), .pointer (some ⟨w.heap.size, 0, none⟩), .int .u64 150] 206)).cell? ⟨0, 0, none⟩ = some (.iface 149 (.agg #[.pointer (some ⟨7, 29, none⟩)])) := by
    rw [World.cell?_alloc_lt _ _ ⟨0, 0, none⟩ (by simp only [World.size_alloc]; omega), World.cell?_alloc_lt _ _ ⟨0, 0, none⟩ hgl]; exact hg
  clear hq hg
  have na := fa_noAsR
  have nu := fa_unwR
  have na2 := fa_noAsF
  have nu2 := fa_unwF
  have na3 := fa_noAsP
  have nu3 := fa_noUnwP
  have nu4 := fa_noUnwsP
  go_enter Tryz.func91, Tryz.ntmps91
  go_wp2
  refine wp_loop_rounds 3 ?_
  rw [rounds_succ]
  go_wp2
  rw [rounds_succ]
  go_wp2
  rw [rounds_succ]
  go_wp2
  go_ret
  exact ⟨rfl, by go_grown⟩

end Go.Proofs.YtabogkonklplcaaGreatDoor
