import Derived.Test.YtabogkonklplcaaGreatDoorE05
import Derived.Test.YtabogkonklplcaaGreatDoorE10

/- errors.As at the targets that margin.fault has. -/
namespace Go.Proofs.YtabogkonklplcaaGreatDoor
open Go.RowKit Go.Extern.Stop Go.Stop Go.Extern
set_option linter.unusedSimpArgs false
set_option linter.unusedVariables false

/-- The variable errors.errorType holds the handle of 'error'. -/
def Glob (w : World) : Prop := w.cell? ⟨0, 0, none⟩ = some (.iface 149 (.agg #[.pointer (some ⟨7, 29, none⟩)]))
theorem Glob.lt {w : World} (h : Glob w) : 0 < w.heap.size := World.block_lt_of_cell? w _ h

set_option maxRecDepth 20000 in
set_option maxHeartbeats 8000000 in
theorem as_R (n : Int) (y : Value) (hy1 : y.oneCell' = true) (tb : Nat) (o0 o1 : Value) (w : World) (hg : Glob w) (hq : w.heap[tb]? = some (.cells #[o0, o1] 145 (0, 0))) :
    Calls Tryz.prog 91 #[.iface 145 (.agg #[.int .i64 n, y]), .iface 146 (.pointer (some ⟨tb, 0, none⟩))] w fun e w' => e = .returned (.bool true) ∧
      w' = ((((((w.alloc (.cells #[.pointer (some ⟨tb, 0, none⟩)] 146)).alloc (.cells #[.pointer (some ⟨7, 146, none⟩), .pointer (some ⟨w.heap.size, 0, none⟩), .int .u64 150] 206)).alloc (.cells #[.pointer (some ⟨7, 146, none⟩), .pointer (some ⟨w.heap.size, 0, none⟩), .int .u64 150] 206)).alloc (.cells #[.int .i64 n, y] 145)).setCell ⟨tb, 0, none⟩ (.int .i64 n)).setCell ⟨tb, 1, none⟩ y) := by
  have htl : tb < w.heap.size := heap_lt hq
  have hgl := hg.lt
  have h6 := fx_h6
  have h7 := fx_h7
  have h8 := fx_h8
  have h27 := fx_h27
  have h37 := fx_h37
  have h38 := fx_h38
  have h10 := fx_h10
  have h35 := fx_h35
  have h11 := fx_h11
  have h12 := fx_h12
  have f6 := fa_valueOfR
  have f7 := fa_typeR
  have k1 := fa_kindPR
  have k2 := fa_kindR
  have e1 := fa_elemR
  have i1 := fa_implR
  have tO := fa_typeOfR
  have a1 := fa_asgRR
  have v1 := fa_valR
  have n8 := fa_isNilR ⟨w.heap.size, 0, none⟩ ⟨tb, 0, none⟩ ((w.alloc (.cells #[.pointer (some ⟨tb, 0, none⟩)] 146)).alloc (.cells #[.pointer (some ⟨7, 146, none⟩), .pointer (some ⟨w.heap.size, 0, none⟩), .int .u64 150] 206)) (by simp)
  have hg2 : ((w.alloc (.cells #[.pointer (some ⟨tb, 0, none⟩)] 146)).alloc (.cells #[.pointer (some ⟨7, 146, none⟩), .pointer (some ⟨w.heap.size, 0, none⟩), .int .u64 150] 206)).cell? ⟨0, 0, none⟩ = some (.iface 149 (.agg #[.pointer (some ⟨7, 29, none⟩)])) := by
    rw [World.cell?_alloc_lt _ _ ⟨0, 0, none⟩ (by simp only [World.size_alloc]; omega), World.cell?_alloc_lt _ _ ⟨0, 0, none⟩ hgl]; exact hg
  have el := fa_elemVR ⟨w.heap.size, 0, none⟩ ⟨tb, 0, none⟩ (((w.alloc (.cells #[.pointer (some ⟨tb, 0, none⟩)] 146)).alloc (.cells #[.pointer (some ⟨7, 146, none⟩), .pointer (some ⟨w.heap.size, 0, none⟩), .int .u64 150] 206)).alloc (.cells #[.pointer (some ⟨7, 146, none⟩), .pointer (some ⟨w.heap.size, 0, none⟩), .int .u64 150] 206)) (by rw [World.cell?_alloc_lt _ _ ⟨w.heap.size, 0, none⟩ (by simp only [World.size_alloc]; omega)]; simp)
  have hq4 : ((((w.alloc (.cells #[.pointer (some ⟨tb, 0, none⟩)] 146)).alloc (.cells #[.pointer (some ⟨7, 146, none⟩), .pointer (some ⟨w.heap.size, 0, none⟩), .int .u64 150] 206)).alloc (.cells #[.pointer (some ⟨7, 146, none⟩), .pointer (some ⟨w.heap.size, 0, none⟩), .int .u64 150] 206)).alloc (.cells #[.int .i64 n, y] 145)).heap[tb]? = some (.cells #[o0, o1] 145 (0, 0)) := by
    rw [Below.heap_alloc _ _ _ (by simp only [World.size_alloc]; omega), Below.heap_alloc _ _ _ (by simp only [World.size_alloc]; omega), Below.heap_alloc _ _ _ (by simp only [World.size_alloc]; omega), Below.heap_alloc _ _ _ htl]; exact hq
  have hnew := heap_alloc_new (((w.alloc (.cells #[.pointer (some ⟨tb, 0, none⟩)] 146)).alloc (.cells #[.pointer (some ⟨7, 146, none⟩), .pointer (some ⟨w.heap.size, 0, none⟩), .int .u64 150] 206)).alloc (.cells #[.pointer (some ⟨7, 146, none⟩), .pointer (some ⟨w.heap.size, 0, none⟩), .int .u64 150] 206)) (.cells #[.int .i64 n, y] 145)
  have st := fa_setR tb (w.heap.size + 1 + 1 + 1) n y o0 o1 ((((w.alloc (.cells #[.pointer (some ⟨tb, 0, none⟩)] 146)).alloc (.cells #[.pointer (some ⟨7, 146, none⟩), .pointer (some ⟨w.heap.size, 0, none⟩), .int .u64 150] 206)).alloc (.cells #[.pointer (some ⟨7, 146, none⟩), .pointer (some ⟨w.heap.size, 0, none⟩), .int .u64 150] 206)).alloc (.cells #[.int .i64 n, y] 145)) hy1
    (by have := cell_of_heap hnew 0; simpa using this) (by have := cell_of_heap hnew 1; simpa using this)
    (cell_of_heap hq4 0) (cell_of_heap hq4 1) (frozen_of_heap hq4 0) (frozen_of_heap hq4 1)
  clear hq hq4 hnew hg
  go_enter Tryz.func91, Tryz.ntmps91
  go_wp2
  refine wp_loop_rounds 1 ?_
  rw [rounds_succ]
  go_wp2
  go_ret
  exact ⟨rfl, rfl⟩

end Go.Proofs.YtabogkonklplcaaGreatDoor
