import Derived.Test.YtabogkonklplcaaGreatDoorQ09

namespace Go.Proofs.YtabogkonklplcaaGreatDoor
open Go.RowKit Go.Extern.Stop Go.Stop Go.Extern
set_option linter.unusedSimpArgs false
set_option linter.unusedVariables false
theorem fa_typeOfO (v : Value) (w : World) : (ReflectliteType.typeOf #[.iface 227 v]).run Tryz.prog w = .ok (.iface 149 (.agg #[.pointer (some ⟨7, 227, none⟩)])) w := by kernel_rfl
theorem fa_asgOP (w : World) : (ReflectliteType.relation "AssignableTo" ReflectliteType.assignableTo #[.agg #[.pointer (some ⟨7, 227, none⟩)], .iface 149 (.agg #[.pointer (some ⟨7, 30, none⟩)])]).run Tryz.prog w = .ok (.bool false) w := by kernel_rfl
theorem fa_asgOM (w : World) : (ReflectliteType.relation "AssignableTo" ReflectliteType.assignableTo #[.agg #[.pointer (some ⟨7, 227, none⟩)], .iface 149 (.agg #[.pointer (some ⟨7, 141, none⟩)])]).run Tryz.prog w = .ok (.bool false) w := by kernel_rfl
theorem fa_noAsO (v : Value) (w : World) : (Instr.typeAssert (.iface 227 v) 29 244 true).run Tryz.prog w = .ok (.tuple #[.nilIface, .bool false]) w := run_typeAssert_lacksB Tryz.underlying244 (by kernel_rfl) (by kernel_rfl) v _ w
theorem fa_unwO (v : Value) (w : World) : (Instr.typeAssert (.iface 227 v) 29 154 true).run Tryz.prog w = .ok (.tuple #[.iface 227 v, .bool true]) w := by kernel_rfl
set_option maxRecDepth 20000 in
set_option maxHeartbeats 8000000 in
theorem as_O (n y at_ : Int) (tb : Nat) (o0 : Value) (w : World) (hg : Glob w) (hq : w.heap[tb]? = some (.cells #[o0] 30 (0, 0))) :
    Calls Tryz.prog 91 #[.iface 145 (.agg #[.int .i64 n, .iface 227 (.agg #[.int .i64 at_])]), .iface 147 (.pointer (some ⟨tb, 0, none⟩))] w fun e w' => e = .returned (.bool true) ∧
      w' = (((((((w.alloc (.cells #[.pointer (some ⟨tb, 0, none⟩)] 147)).alloc (.cells #[.pointer (some ⟨7, 147, none⟩), .pointer (some ⟨w.heap.size, 0, none⟩), .int .u64 150] 206)).alloc (.cells #[.pointer (some ⟨7, 147, none⟩), .pointer (some ⟨w.heap.size, 0, none⟩), .int .u64 150] 206)).alloc (.cells #[.int .i64 n, .iface 227 (.agg #[.int .i64 at_])] 145)).alloc (.cells #[.int .i64 at_] 227)).alloc (.cells #[.int .i64 3] 30)).setCell ⟨tb, 0, none⟩ (.int .i64 3)) := by
  have htl : tb < w.heap.size := heap_lt hq
  have hgl := hg.lt
  have h6 := fx_h6
  have h7 := fx_h7
  have h8 := fx_h8
  have h27 := fx_h27
  have h37 := fx_h37
  have h38 := fx_h38
  have h10 := fx_h10
  have h35 := fx_h35
  have h11 := fx_h11
  have h12 := fx_h12
  have f6 := fa_valueOfP
  have f7 := fa_typeP
  have k1 := fa_kindPP
  have k2 := fa_kindP
  have e1 := fa_elemP
  have i1 := fa_implP
  have tO := fa_typeOfP
  have tO2 := fa_typeOfR
  have tO3 := fa_typeOfO
  have a1 := fa_asgPP
  have a2 := fa_asgRP
  have a3 := fa_asgOP
  have v1 := fa_valP
  have n8 := fa_isNilP ⟨w.heap.size, 0, none⟩ ⟨tb, 0, none⟩ ((w.alloc (.cells #[.pointer (some ⟨tb, 0, none⟩)] 147)).alloc (.cells #[.pointer (some ⟨7, 147, none⟩), .pointer (some ⟨w.heap.size, 0, none⟩), .int .u64 150] 206)) (by simp)
  have hg2 : ((w.alloc (.cells #[.pointer (some ⟨tb, 0, none⟩)] 147)).alloc (.cells #[.pointer (some ⟨7, 147, none⟩), .pointer (some ⟨w.heap.size, 0, none⟩), .int .u64 150] 206)).cell? ⟨0, 0, none⟩ = some (.iface 149 (.agg #[.pointer (some ⟨7, 29, none⟩)])) := by
    rw [World.cell?_alloc_lt _ _ ⟨0, 0, none⟩ (by simp only [World.size_alloc]; omega), World.cell?_alloc_lt _ _ ⟨0, 0, none⟩ hgl]; exact hg
  have hq1 : (((((w.alloc (.cells #[.pointer (some ⟨tb, 0, none⟩)] 147)).alloc (.cells #[.pointer (some ⟨7, 147, none⟩), .pointer (some ⟨w.heap.size, 0, none⟩), .int .u64 150] 206)).alloc (.cells #[.pointer (some ⟨7, 147, none⟩), .pointer (some ⟨w.heap.size, 0, none⟩), .int .u64 150] 206)).alloc (.cells #[.int .i64 n, .iface 227 (.agg #[.int .i64 at_])] 145)).alloc (.cells #[.int .i64 at_] 227)).heap[w.heap.size]? = some (.cells #[.pointer (some ⟨tb, 0, none⟩)] 147 (0, 0)) := by
    rw [Below.heap_alloc _ _ _ (by simp only [World.size_alloc]; omega), Below.heap_alloc _ _ _ (by simp only [World.size_alloc]; omega), Below.heap_alloc _ _ _ (by simp only [World.size_alloc]; omega), Below.heap_alloc _ _ _ (by simp only [World.size_alloc]; omega), heap_alloc_new]
  have el := fa_elemVP ⟨w.heap.size, 0, none⟩ ⟨tb, 0, none⟩ (((((w.alloc (.cells #[.pointer (some ⟨tb, 0, none⟩)] 147)).alloc (.cells #[.pointer (some ⟨7, 147, none⟩), .pointer (some ⟨w.heap.size, 0, none⟩), .int .u64 150] 206)).alloc (.cells #[.pointer (some ⟨7, 147, none⟩), .pointer (some ⟨w.heap.size, 0, none⟩), .int .u64 150] 206)).alloc (.cells #[.int .i64 n, .iface 227 (.agg #[.int .i64 at_])] 145)).alloc (.cells #[.int .i64 at_] 227)) (cell_of_heap hq1 0)
  have hq4 : ((((((w.alloc (.cells #[.pointer (some ⟨tb, 0, none⟩)] 147)).alloc (.cells #[.pointer (some ⟨7, 147, none⟩), .pointer (some ⟨w.heap.size, 0, none⟩), .int .u64 150] 206)).alloc (.cells #[.pointer (some ⟨7, 147, none⟩), .pointer (some ⟨w.heap.size, 0, none⟩), .int .u64 150] 206)).alloc (.cells #[.int .i64 n, .iface 227 (.agg #[.int .i64 at_])] 145)).alloc (.cells #[.int .i64 at_] 227)).alloc (.cells #[.int .i64 3] 30)).heap[tb]? = some (.cells #[o0] 30 (0, 0)) := by
    rw [Below.heap_alloc _ _ _ (by simp only [World.size_alloc]; omega), Below.heap_alloc _ _ _ (by simp only [World.size_alloc]; omega), Below.heap_alloc _ _ _ (by simp only [World.size_alloc]; omega), Below.heap_alloc _ _ _ (by simp only [World.size_alloc]; omega), Below.heap_alloc _ _ _ (by simp only [World.size_alloc]; omega), Below.heap_alloc _ _ _ htl]; exact hq
  have hnew := heap_alloc_new (((((w.alloc (.cells #[.pointer (some ⟨tb, 0, none⟩)] 147)).alloc (.cells #[.pointer (some ⟨7, 147, none⟩), .pointer (some ⟨w.heap.size, 0, none⟩), .int .u64 150] 206)).alloc (.cells #[.pointer (some ⟨7, 147, none⟩), .pointer (some ⟨w.heap.size, 0, none⟩), .int .u64 150] 206)).alloc (.cells #[.int .i64 n, .iface 227 (.agg #[.int .i64 at_])] 145)).alloc (.cells #[.int .i64 at_] 227)) (.cells #[.int .i64 3] 30)
  have st := fa_setP ⟨tb, 0, none⟩ ⟨w.heap.size + 1 + 1 + 1 + 1 + 1, 0, none⟩ 3 o0 ((((((w.alloc (.cells #[.pointer (some ⟨tb, 0, none⟩)] 147)).alloc (.cells #[.pointer (some ⟨7, 147, none⟩), .pointer (some ⟨w.heap.size, 0, none⟩), .int .u64 150] 206)).alloc (.cells #[.pointer (some ⟨7, 147, none⟩), .pointer (some ⟨w.heap.size, 0, none⟩), .int .u64 150] 206)).alloc (.cells #[.int .i64 n, .iface 227 (.agg #[.int .i64 at_])] 145)).alloc (.cells #[.int .i64 at_] 227)).alloc (.cells #[.int .i64 3] 30))
    (by have := cell_of_heap hnew 0; simpa using this) (cell_of_heap hq4 0) (frozen_of_heap hq4 0)
  clear hq hq1 hq4 hnew hg
  have na := fa_noAsR
  have nu := fa_unwR
  have na2 := fa_noAsO
  have nu2 := fa_unwO
  go_enter Tryz.func91, Tryz.ntmps91
  go_wp2
  refine wp_loop_rounds 3 ?_
  rw [rounds_succ]
  go_wp2
  rw [rounds_succ]
  go_wp2
  rw [rounds_succ]
  go_wp2
  go_ret
  exact ⟨rfl, rfl⟩
set_option maxRecDepth 20000 in
set_option maxHeartbeats 8000000 in
theorem as_MO (n at_ : Int) (tb : Nat) (o0 : Value) (w : World) (hg : Glob w) (hq : w.heap[tb]? = some (.cells #[o0] 141 (0, 0))) :
    Calls Tryz.prog 91 #[.iface 145 (.agg #[.int .i64 n, .iface 227 (.agg #[.int .i64 at_])]), .iface 143 (.pointer (some ⟨tb, 0, none⟩))] w fun e w' => e = .returned (.bool false) ∧ Below w.heap.size w w' := by
  have htl : tb < w.heap.size := heap_lt hq
  have hgl := hg.lt
  have h6 := fx_h6
  have h7 := fx_h7
  have h8 := fx_h8
  have h27 := fx_h27
  have h37 := fx_h37
  have h38 := fx_h38
  have h10 := fx_h10
  have h35 := fx_h35
  have f6 := fa_valueOfM
  have f7 := fa_typeM
  have k1 := fa_kindPM
  have k2 := fa_kindM
  have e1 := fa_elemM
  have i1 := fa_implM
  have tO := fa_typeOfP
  have tO2 := fa_typeOfR
  have tO3 := fa_typeOfO
  have a1 := fa_asgPM
  have a2 := fa_asgRM
  have a3 := fa_asgOM
  have n8 := fa_isNilM ⟨w.heap.size, 0, none⟩ ⟨tb, 0, none⟩ ((w.alloc (.cells #[.pointer (some ⟨tb, 0, none⟩)] 143)).alloc (.cells #[.pointer (some ⟨7, 143, none⟩), .pointer (some ⟨w.heap.size, 0, none⟩), .int .u64 150] 206)) (by simp)
  have hg2 : ((w.alloc (.cells #[.pointer (some ⟨tb, 0, none⟩)] 143)).alloc (.cells #[.pointer (some ⟨7, 143, none⟩), .pointer (some ⟨w.heap.size, 0, none⟩), .int .u64 150] 206)).cell? ⟨0, 0, none⟩ = some (.iface 149 (.agg #[.pointer (some ⟨7, 29, none⟩)])) := by
    rw [World.cell?_alloc_lt _ _ ⟨0, 0, none⟩ (by simp only [World.size_alloc]; omega), World.cell?_alloc_lt _ _ ⟨0, 0, none⟩ hgl]; exact hg
  clear hq hg
  have na := fa_noAsR
  have nu := fa_unwR
  have na2 := fa_noAsO
  have nu2 := fa_unwO
  have na3 := fa_noAsP
  have nu3 := fa_noUnwP
  have nu4 := fa_noUnwsP
  go_enter Tryz.func91, Tryz.ntmps91
  go_wp2
  refine wp_loop_rounds 3 ?_
  rw [rounds_succ]
  go_wp2
  rw [rounds_succ]
  go_wp2
  rw [rounds_succ]
  go_wp2
  go_ret
  exact ⟨rfl, by go_grown⟩
theorem as_O' (n at_ : Int) (tb : Nat) (o0 : Value) (w : World) (hg : Glob w) (hq : w.heap[tb]? = some (.cells #[o0] 30 (0, 0))) :
    Calls Tryz.prog 91 #[.iface 145 (.agg #[.int .i64 n, .iface 227 (.agg #[.int .i64 at_])]), .iface 147 (.pointer (some ⟨tb, 0, none⟩))] w fun e w' => e = .returned (.bool true) ∧
      Keeps (fun b => b = tb) w w' ∧ w'.heap[tb]? = some (.cells #[.int .i64 3] 30 (0, 0)) := by
  refine (as_O n 0 at_ tb o0 w hg hq).mono ?_
  rintro e w' ⟨rfl, rfl⟩
  have htl := heap_lt hq
  refine ⟨rfl, ?_, setCell_heap1 (o := o0) ?_⟩
  · exact (((((((Keeps.refl (fun b => b = tb) w).alloc _).alloc _).alloc _).alloc _).alloc _).alloc _).setCell (p := ⟨tb, 0, none⟩) (.inl rfl) _
  · rw [Below.heap_alloc _ _ _ (by simp only [World.size_alloc]; omega), Below.heap_alloc _ _ _ (by simp only [World.size_alloc]; omega), Below.heap_alloc _ _ _ (by simp only [World.size_alloc]; omega), Below.heap_alloc _ _ _ (by simp only [World.size_alloc]; omega), Below.heap_alloc _ _ _ (by simp only [World.size_alloc]; omega), Below.heap_alloc _ _ _ htl]; exact hq
theorem fault_O (n at_ : Int) (w : World) (hg : Glob w) :
    Calls Tryz.prog 46 #[.iface 145 (.agg #[.int .i64 n, .iface 227 (.agg #[.int .i64 at_])])] w fun e w' => e = .returned (.iface 32 (.agg #[.int .i64 n, .int .i64 3])) ∧ Below w.heap.size w w' :=
  fault_of n 3 _ rfl w hg (fun tb o0 w1 h1 h2 => as_MO n at_ tb o0 w1 h1 h2) (fun tb o0 w1 h1 h2 => as_O' n at_ tb o0 w1 h1 h2)
end Go.Proofs.YtabogkonklplcaaGreatDoor
