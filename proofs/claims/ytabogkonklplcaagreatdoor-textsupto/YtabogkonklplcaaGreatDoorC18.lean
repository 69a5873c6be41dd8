import Derived.Test.YtabogkonklplcaaGreatDoorC17

/- The model's entries for internal/reflectlite, found. -/
namespace Go.Proofs.YtabogkonklplcaaGreatDoor
open Go.RowKit Go.Extern.Stop Go.Stop Go.Extern
set_option linter.unusedSimpArgs false
set_option linter.unusedVariables false

theorem fx_h6 : ∀ (args : Array Value) (w : World), Sem.run Tryz.prog (callFunc 139 args) w = (Sem.run Tryz.prog ((fun args => ReflectliteValue.unpack (args.getD 0 (.tuple #[]))) args) w).andThen fun v w' => Result.ok (Next.value v) w' := @run_callFunc_extern Tryz.prog 139 _ (fun args => ReflectliteValue.unpack (args.getD 0 (.tuple #[]))) Tryz.func139 (by kernel_rfl) (by kernel_rfl) (by kernel_rfl) (by kernel_rfl)
theorem fx_h7 : ∀ (args : Array Value) (w : World), Sem.run Tryz.prog (callFunc 140 args) w = (Sem.run Tryz.prog ((ReflectliteValue.methodAny (ReflectliteValue.valueError "reflectlite.Value.Type" 0) (fun t _ _ _ => ReflectliteType.toType t)) args) w).andThen fun v w' => Result.ok (Next.value v) w' := @run_callFunc_extern Tryz.prog 140 _ (ReflectliteValue.methodAny (ReflectliteValue.valueError "reflectlite.Value.Type" 0) (fun t _ _ _ => ReflectliteType.toType t)) Tryz.func140 (by kernel_rfl) (by kernel_rfl) (by kernel_rfl) (by kernel_rfl)
theorem fx_h8 : ∀ (args : Array Value) (w : World), Sem.run Tryz.prog (callFunc 141 args) w = (Sem.run Tryz.prog ((ReflectliteValue.method (ReflectliteValue.valueError "reflectlite.Value.IsNil" 0) ReflectliteValue.isNil) args) w).andThen fun v w' => Result.ok (Next.value v) w' := @run_callFunc_extern Tryz.prog 141 _ (ReflectliteValue.method (ReflectliteValue.valueError "reflectlite.Value.IsNil" 0) ReflectliteValue.isNil) Tryz.func141 (by kernel_rfl) (by kernel_rfl) (by kernel_rfl) (by kernel_rfl)
theorem fx_h27 : ∀ (args : Array Value) (w : World), Sem.run Tryz.prog (callFunc 228 args) w = (Sem.run Tryz.prog ((ReflectliteType.abiMethod fun t => do pure (.int .u8 (← Rtype.kind t))) args) w).andThen fun v w' => Result.ok (Next.value v) w' := @run_callFunc_extern Tryz.prog 228 _ (ReflectliteType.abiMethod fun t => do pure (.int .u8 (← Rtype.kind t))) Tryz.func228 (by kernel_rfl) (by kernel_rfl) (by kernel_rfl) (by kernel_rfl)
theorem fx_h37 : ∀ (args : Array Value) (w : World), Sem.run Tryz.prog (callFunc 241 args) w = (Sem.run Tryz.prog ((ReflectliteType.method ReflectliteType.elem) args) w).andThen fun v w' => Result.ok (Next.value v) w' := @run_callFunc_extern Tryz.prog 241 _ (ReflectliteType.method ReflectliteType.elem) Tryz.func241 (by kernel_rfl) (by kernel_rfl) (by kernel_rfl) (by kernel_rfl)
theorem fx_h38 : ∀ (args : Array Value) (w : World), Sem.run Tryz.prog (callFunc 242 args) w = (Sem.run Tryz.prog ((ReflectliteType.relation "Implements" ReflectliteType.implements_) args) w).andThen fun v w' => Result.ok (Next.value v) w' := @run_callFunc_extern Tryz.prog 242 _ (ReflectliteType.relation "Implements" ReflectliteType.implements_) Tryz.func242 (by kernel_rfl) (by kernel_rfl) (by kernel_rfl) (by kernel_rfl)
theorem fx_h10 : ∀ (args : Array Value) (w : World), Sem.run Tryz.prog (callFunc 50 args) w = (Sem.run Tryz.prog (ReflectliteType.typeOf args) w).andThen fun v w' => Result.ok (Next.value v) w' := @run_callFunc_extern Tryz.prog 50 _ ReflectliteType.typeOf Tryz.func50 (by kernel_rfl) (by kernel_rfl) (by kernel_rfl) (by kernel_rfl)
theorem fx_h35 : ∀ (args : Array Value) (w : World), Sem.run Tryz.prog (callFunc 239 args) w = (Sem.run Tryz.prog ((ReflectliteType.relation "AssignableTo" ReflectliteType.assignableTo) args) w).andThen fun v w' => Result.ok (Next.value v) w' := @run_callFunc_extern Tryz.prog 239 _ (ReflectliteType.relation "AssignableTo" ReflectliteType.assignableTo) Tryz.func239 (by kernel_rfl) (by kernel_rfl) (by kernel_rfl) (by kernel_rfl)
theorem fx_h11 : ∀ (args : Array Value) (w : World), Sem.run Tryz.prog (callFunc 169 args) w = (Sem.run Tryz.prog ((ReflectliteValue.method (ReflectliteValue.valueError "reflectlite.Value.Elem" 0) ReflectliteValue.elem) args) w).andThen fun v w' => Result.ok (Next.value v) w' := @run_callFunc_extern Tryz.prog 169 _ (ReflectliteValue.method (ReflectliteValue.valueError "reflectlite.Value.Elem" 0) ReflectliteValue.elem) Tryz.func169 (by kernel_rfl) (by kernel_rfl) (by kernel_rfl) (by kernel_rfl)
theorem fx_h12 : ∀ (args : Array Value) (w : World), Sem.run Tryz.prog (callFunc 170 args) w = (Sem.run Tryz.prog (ReflectliteValue.set args) w).andThen fun v w' => Result.ok (Next.value v) w' := @run_callFunc_extern Tryz.prog 170 _ ReflectliteValue.set Tryz.func170 (by kernel_rfl) (by kernel_rfl) (by kernel_rfl) (by kernel_rfl)

end Go.Proofs.YtabogkonklplcaaGreatDoor

/- margin.fault: what a caller sees of an inner error. -/
namespace Go.Proofs.YtabogkonklplcaaGreatDoor
open Go.RowKit Go.Extern.Stop Go.Stop Go.Extern
set_option linter.unusedSimpArgs false
set_option linter.unusedVariables false

/-- (Value).Set of a Refusal: two cells. -/
theorem fa_setR (tb bb : Nat) (n : Int) (y o0 o1 : Value) (W : World) (hy : y.oneCell' = true) (hb0 : W.cell? ⟨bb, 0, none⟩ = some (.int .i64 n)) (hb1 : W.cell? ⟨bb, 1, none⟩ = some y)
    (ht0 : W.cell? ⟨tb, 0, none⟩ = some o0) (ht1 : W.cell? ⟨tb, 1, none⟩ = some o1) (hf0 : W.frozen? ⟨tb, 0, none⟩ = false) (hf1 : W.frozen? ⟨tb, 1, none⟩ = false) :
    (ReflectliteValue.set #[.agg #[.pointer (some ⟨7, 145, none⟩), .pointer (some ⟨tb, 0, none⟩), .int .u64 409], .agg #[.pointer (some ⟨7, 145, none⟩), .pointer (some ⟨bb, 0, none⟩), .int .u64 153]]).run Tryz.prog W
      = .ok (.tuple #[]) ((W.setCell ⟨tb, 0, none⟩ (.int .i64 n)).setCell ⟨tb, 1, none⟩ y) := by
  rw [rls]
  simp only [Sem.run_bind, fa_partsRa, fa_partsRb, Result.andThen]
  simp [ReflectliteValue.flagAddr, loadVar, isAgg, underlying, Tryz.underlying145, hb0, hb1, Result.andThen, fa_dirR, storeVar, Value.cells, storeCells, Addr.add, loadCellsFrom]
  have e1 : (⟨bb, 0, none⟩ : Addr).add 1 = ⟨bb, 1, none⟩ := by rfl
  have hlc : (loadCells ⟨bb, 0, none⟩ 2).run Tryz.prog W = .ok #[.int .i64 n, y] W := by
    simp [loadCells, loadCellsFrom, Addr.add, go_sem, hb0, hb1, Result.andThen]
  rw [hlc]
  simp [storeCells, Addr.add, Sem.run_bind]
  rw [run_store Tryz.prog W ⟨tb, 0, none⟩ _ _ (by rfl)]
  simp [ht0, hf0, Result.andThen]
  have ht1' : (W.setCell ⟨tb, 0, none⟩ (.int .i64 n)).cell? ⟨tb, 1, none⟩ = some o1 := by rw [World.cell?_setCell_other _ _ _ _ (by simp)]; exact ht1
  rw [run_store Tryz.prog _ ⟨tb, 1, none⟩ _ _ hy]
  simp [ht1', hf1]

end Go.Proofs.YtabogkonklplcaaGreatDoor

/- errors.As at the targets that margin.fault has. -/
namespace Go.Proofs.YtabogkonklplcaaGreatDoor
open Go.RowKit Go.Extern.Stop Go.Stop Go.Extern
set_option linter.unusedSimpArgs false
set_option linter.unusedVariables false

/-- The variable errors.errorType holds the handle of 'error'. -/
def Glob (w : World) : Prop := w.cell? ⟨0, 0, none⟩ = some (.iface 149 (.agg #[.pointer (some ⟨7, 29, none⟩)]))
theorem Glob.lt {w : World} (h : Glob w) : 0 < w.heap.size := World.block_lt_of_cell? w _ h

set_option maxRecDepth 20000 in
set_option maxHeartbeats 8000000 in
theorem as_R (n : Int) (y : Value) (hy1 : y.oneCell' = true) (tb : Nat) (o0 o1 : Value) (w : World) (hg : Glob w) (hq : w.heap[tb]? = some (.cells #[o0, o1] 145 (0, 0))) :
    Calls Tryz.prog 91 #[.iface 145 (.agg #[.int .i64 n, y]), .iface 146 (.pointer (some ⟨tb, 0, none⟩))] w fun e w' => e = .returned (.bool true) ∧
      w' = ((((((w.alloc (.cells #[.pointer (some ⟨tb, 0, none⟩)] 146)).alloc (.cells #[.pointer (some ⟨7, 146, none⟩), .pointer (some ⟨w.heap.size, 0, none⟩), .int .u64 150] 206)).alloc (.cells #[.pointer (some ⟨7, 146, none⟩), .pointer (some ⟨w.heap.size, 0, none⟩), .int .u64 150] 206)).alloc (.cells #[.int .i64 n, y] 145)).setCell ⟨tb, 0, none⟩ (.int .i64 n)).setCell ⟨tb, 1, none⟩ y) := by
  have htl : tb < w.heap.size := heap_lt hq
  have hgl := hg.lt
  have h6 := fx_h6
  have h7 := fx_h7
  have h8 := fx_h8
  have h27 := fx_h27
  have h37 := fx_h37
  have h38 := fx_h38
  have h10 := fx_h10
  have h35 := fx_h35
  have h11 := fx_h11
  have h12 := fx_h12
  have f6 := fa_valueOfR
  have f7 := fa_typeR
  have k1 := fa_kindPR
  have k2 := fa_kindR
  have e1 := fa_elemR
  have i1 := fa_implR
  have tO := fa_typeOfR
  have a1 := fa_asgRR
  have v1 := fa_valR
  have n8 := fa_isNilR ⟨w.heap.size, 0, none⟩ ⟨tb, 0, none⟩ ((w.alloc (.cells #[.pointer (some ⟨tb, 0, none⟩)] 146)).alloc (.cells #[.pointer (some ⟨7, 146, none⟩), .pointer (some ⟨w.heap.size, 0, none⟩), .int .u64 150] 206)) (by simp)
  have hg2 : ((w.alloc (.cells #[.pointer (some ⟨tb, 0, none⟩)] 146)).alloc (.cells #[.pointer (some ⟨7, 146, none⟩), .pointer (some ⟨w.heap.size, 0, none⟩), .int .u64 150] 206)).cell? ⟨0, 0, none⟩ = some (.iface 149 (.agg #[.pointer (some ⟨7, 29, none⟩)])) := by
    rw [World.cell?_alloc_lt _ _ ⟨0, 0, none⟩ (by simp only [World.size_alloc]; omega), World.cell?_alloc_lt _ _ ⟨0, 0, none⟩ hgl]; exact hg
  have el := fa_elemVR ⟨w.heap.size, 0, none⟩ ⟨tb, 0, none⟩ (((w.alloc (.cells #[.pointer (some ⟨tb, 0, none⟩)] 146)).alloc (.cells #[.pointer (some ⟨7, 146, none⟩), .pointer (some ⟨w.heap.size, 0, none⟩), .int .u64 150] 206)).alloc (.cells #[.pointer (some ⟨7, 146, none⟩), .pointer (some ⟨w.heap.size, 0, none⟩), .int .u64 150] 206)) (by rw [World.cell?_alloc_lt _ _ ⟨w.heap.size, 0, none⟩ (by simp only [World.size_alloc]; omega)]; simp)
  have hq4 : ((((w.alloc (.cells #[.pointer (some ⟨tb, 0, none⟩)] 146)).alloc (.cells #[.pointer (some ⟨7, 146, none⟩), .pointer (some ⟨w.heap.size, 0, none⟩), .int .u64 150] 206)).alloc (.cells #[.pointer (some ⟨7, 146, none⟩), .pointer (some ⟨w.heap.size, 0, none⟩), .int .u64 150] 206)).alloc (.cells #[.int .i64 n, y] 145)).heap[tb]? = some (.cells #[o0, o1] 145 (0, 0)) := by
    rw [Below.heap_alloc _ _ _ (by simp only [World.size_alloc]; omega), Below.heap_alloc _ _ _ (by simp only [World.size_alloc]; omega), Below.heap_alloc _ _ _ (by simp only [World.size_alloc]; omega), Below.heap_alloc _ _ _ htl]; exact hq
  have hnew := heap_alloc_new (((w.alloc (.cells #[.pointer (some ⟨tb, 0, none⟩)] 146)).alloc (.cells #[.pointer (some ⟨7, 146, none⟩), .pointer (some ⟨w.heap.size, 0, none⟩), .int .u64 150] 206)).alloc (.cells #[.pointer (some ⟨7, 146, none⟩), .pointer (some ⟨w.heap.size, 0, none⟩), .int .u64 150] 206)) (.cells #[.int .i64 n, y] 145)
  have st := fa_setR tb (w.heap.size + 1 + 1 + 1) n y o0 o1 ((((w.alloc (.cells #[.pointer (some ⟨tb, 0, none⟩)] 146)).alloc (.cells #[.pointer (some ⟨7, 146, none⟩), .pointer (some ⟨w.heap.size, 0, none⟩), .int .u64 150] 206)).alloc (.cells #[.pointer (some ⟨7, 146, none⟩), .pointer (some ⟨w.heap.size, 0, none⟩), .int .u64 150] 206)).alloc (.cells #[.int .i64 n, y] 145)) hy1
    (by have := cell_of_heap hnew 0; simpa using this) (by have := cell_of_heap hnew 1; simpa using this)
    (cell_of_heap hq4 0) (cell_of_heap hq4 1) (frozen_of_heap hq4 0) (frozen_of_heap hq4 1)
  clear hq hq4 hnew hg
  go_enter Tryz.func91, Tryz.ntmps91
  go_wp2
  refine wp_loop_rounds 1 ?_
  rw [rounds_succ]
  go_wp2
  go_ret
  exact ⟨rfl, rfl⟩

end Go.Proofs.YtabogkonklplcaaGreatDoor

/- errors.As at the targets that margin.fault has, 2. -/
namespace Go.Proofs.YtabogkonklplcaaGreatDoor
open Go.RowKit Go.Extern.Stop Go.Stop Go.Extern
set_option linter.unusedSimpArgs false
set_option linter.unusedVariables false

theorem fa_noAsR (v : Value) (w : World) : (Instr.typeAssert (.iface 145 v) 29 244 true).run Tryz.prog w = .ok (.tuple #[.nilIface, .bool false]) w := run_typeAssert_lacksB Tryz.underlying244 (by kernel_rfl) (by kernel_rfl) v _ w
theorem fa_unwR (v : Value) (w : World) : (Instr.typeAssert (.iface 145 v) 29 154 true).run Tryz.prog w = .ok (.tuple #[.iface 145 v, .bool true]) w := by kernel_rfl
theorem fa_noAsF (v : Value) (w : World) : (Instr.typeAssert (.iface 249 v) 29 244 true).run Tryz.prog w = .ok (.tuple #[.nilIface, .bool false]) w := run_typeAssert_lacksB Tryz.underlying244 (by kernel_rfl) (by kernel_rfl) v _ w
theorem fa_unwF (v : Value) (w : World) : (Instr.typeAssert (.iface 249 v) 29 154 true).run Tryz.prog w = .ok (.tuple #[.iface 249 v, .bool true]) w := by kernel_rfl
set_option maxRecDepth 20000 in
set_option maxHeartbeats 8000000 in
theorem as_P (n y at_ : Int) (tb : Nat) (o0 : Value) (w : World) (hg : Glob w) (hq : w.heap[tb]? = some (.cells #[o0] 30 (0, 0))) :
    Calls Tryz.prog 91 #[.iface 145 (.agg #[.int .i64 n, .iface 30 (.int .i64 y)]), .iface 147 (.pointer (some ⟨tb, 0, none⟩))] w fun e w' => e = .returned (.bool true) ∧
      w' = ((((((w.alloc (.cells #[.pointer (some ⟨tb, 0, none⟩)] 147)).alloc (.cells #[.pointer (some ⟨7, 147, none⟩), .pointer (some ⟨w.heap.size, 0, none⟩), .int .u64 150] 206)).alloc (.cells #[.pointer (some ⟨7, 147, none⟩), .pointer (some ⟨w.heap.size, 0, none⟩), .int .u64 150] 206)).alloc (.cells #[.int .i64 n, .iface 30 (.int .i64 y)] 145)).alloc (.cells #[.int .i64 y] 30)).setCell ⟨tb, 0, none⟩ (.int .i64 y)) := by
  have htl : tb < w.heap.size := heap_lt hq
  have hgl := hg.lt
  have h6 := fx_h6
  have h7 := fx_h7
  have h8 := fx_h8
  have h27 := fx_h27
  have h37 := fx_h37
  have h38 := fx_h38
  have h10 := fx_h10
  have h35 := fx_h35
  have h11 := fx_h11
  have h12 := fx_h12
  have f6 := fa_valueOfP
  have f7 := fa_typeP
  have k1 := fa_kindPP
  have k2 := fa_kindP
  have e1 := fa_elemP
  have i1 := fa_implP
  have tO := fa_typeOfP
  have tO2 := fa_typeOfR
  have tO3 := fa_typeOfF
  have a1 := fa_asgPP
  have a2 := fa_asgRP
  have a3 := fa_asgFP
  have v1 := fa_valP
  have n8 := fa_isNilP ⟨w.heap.size, 0, none⟩ ⟨tb, 0, none⟩ ((w.alloc (.cells #[.pointer (some ⟨tb, 0, none⟩)] 147)).alloc (.cells #[.pointer (some ⟨7, 147, none⟩), .pointer (some ⟨w.heap.size, 0, none⟩), .int .u64 150] 206)) (by simp)
  have hg2 : ((w.alloc (.cells #[.pointer (some ⟨tb, 0, none⟩)] 147)).alloc (.cells #[.pointer (some ⟨7, 147, none⟩), .pointer (some ⟨w.heap.size, 0, none⟩), .int .u64 150] 206)).cell? ⟨0, 0, none⟩ = some (.iface 149 (.agg #[.pointer (some ⟨7, 29, none⟩)])) := by
    rw [World.cell?_alloc_lt _ _ ⟨0, 0, none⟩ (by simp only [World.size_alloc]; omega), World.cell?_alloc_lt _ _ ⟨0, 0, none⟩ hgl]; exact hg
  have hq1 : ((((w.alloc (.cells #[.pointer (some ⟨tb, 0, none⟩)] 147)).alloc (.cells #[.pointer (some ⟨7, 147, none⟩), .pointer (some ⟨w.heap.size, 0, none⟩), .int .u64 150] 206)).alloc (.cells #[.pointer (some ⟨7, 147, none⟩), .pointer (some ⟨w.heap.size, 0, none⟩), .int .u64 150] 206)).alloc (.cells #[.int .i64 n, .iface 30 (.int .i64 y)] 145)).heap[w.heap.size]? = some (.cells #[.pointer (some ⟨tb, 0, none⟩)] 147 (0, 0)) := by
    rw [Below.heap_alloc _ _ _ (by simp only [World.size_alloc]; omega), Below.heap_alloc _ _ _ (by simp only [World.size_alloc]; omega), Below.heap_alloc _ _ _ (by simp only [World.size_alloc]; omega), heap_alloc_new]
  have el := fa_elemVP ⟨w.heap.size, 0, none⟩ ⟨tb, 0, none⟩ ((((w.alloc (.cells #[.pointer (some ⟨tb, 0, none⟩)] 147)).alloc (.cells #[.pointer (some ⟨7, 147, none⟩), .pointer (some ⟨w.heap.size, 0, none⟩), .int .u64 150] 206)).alloc (.cells #[.pointer (some ⟨7, 147, none⟩), .pointer (some ⟨w.heap.size, 0, none⟩), .int .u64 150] 206)).alloc (.cells #[.int .i64 n, .iface 30 (.int .i64 y)] 145)) (cell_of_heap hq1 0)
  have hq4 : (((((w.alloc (.cells #[.pointer (some ⟨tb, 0, none⟩)] 147)).alloc (.cells #[.pointer (some ⟨7, 147, none⟩), .pointer (some ⟨w.heap.size, 0, none⟩), .int .u64 150] 206)).alloc (.cells #[.pointer (some ⟨7, 147, none⟩), .pointer (some ⟨w.heap.size, 0, none⟩), .int .u64 150] 206)).alloc (.cells #[.int .i64 n, .iface 30 (.int .i64 y)] 145)).alloc (.cells #[.int .i64 y] 30)).heap[tb]? = some (.cells #[o0] 30 (0, 0)) := by
    rw [Below.heap_alloc _ _ _ (by simp only [World.size_alloc]; omega), Below.heap_alloc _ _ _ (by simp only [World.size_alloc]; omega), Below.heap_alloc _ _ _ (by simp only [World.size_alloc]; omega), Below.heap_alloc _ _ _ (by simp only [World.size_alloc]; omega), Below.heap_alloc _ _ _ htl]; exact hq
  have hnew := heap_alloc_new ((((w.alloc (.cells #[.pointer (some ⟨tb, 0, none⟩)] 147)).alloc (.cells #[.pointer (some ⟨7, 147, none⟩), .pointer (some ⟨w.heap.size, 0, none⟩), .int .u64 150] 206)).alloc (.cells #[.pointer (some ⟨7, 147, none⟩), .pointer (some ⟨w.heap.size, 0, none⟩), .int .u64 150] 206)).alloc (.cells #[.int .i64 n, .iface 30 (.int .i64 y)] 145)) (.cells #[.int .i64 y] 30)
  have st := fa_setP ⟨tb, 0, none⟩ ⟨w.heap.size + 1 + 1 + 1 + 1, 0, none⟩ y o0 (((((w.alloc (.cells #[.pointer (some ⟨tb, 0, none⟩)] 147)).alloc (.cells #[.pointer (some ⟨7, 147, none⟩), .pointer (some ⟨w.heap.size, 0, none⟩), .int .u64 150] 206)).alloc (.cells #[.pointer (some ⟨7, 147, none⟩), .pointer (some ⟨w.heap.size, 0, none⟩), .int .u64 150] 206)).alloc (.cells #[.int .i64 n, .iface 30 (.int .i64 y)] 145)).alloc (.cells #[.int .i64 y] 30))
    (by have := cell_of_heap hnew 0; simpa using this) (cell_of_heap hq4 0) (frozen_of_heap hq4 0)
  clear hq hq1 hq4 hnew hg
  have na := fa_noAsR
  have nu := fa_unwR
  have na2 := fa_noAsF
  have nu2 := fa_unwF
  go_enter Tryz.func91, Tryz.ntmps91
  go_wp2
  refine wp_loop_rounds 2 ?_
  rw [rounds_succ]
  go_wp2
  rw [rounds_succ]
  go_wp2
  go_ret
  exact ⟨rfl, rfl⟩

set_option maxRecDepth 20000 in
set_option maxHeartbeats 8000000 in
theorem as_F (n y at_ : Int) (tb : Nat) (o0 : Value) (w : World) (hg : Glob w) (hq : w.heap[tb]? = some (.cells #[o0] 30 (0, 0))) :
    Calls Tryz.prog 91 #[.iface 145 (.agg #[.int .i64 n, .iface 249 (.agg #[.int .i64 at_])]), .iface 147 (.pointer (some ⟨tb, 0, none⟩))] w fun e w' => e = .returned (.bool true) ∧
      w' = (((((((w.alloc (.cells #[.pointer (some ⟨tb, 0, none⟩)] 147)).alloc (.cells #[.pointer (some ⟨7, 147, none⟩), .pointer (some ⟨w.heap.size, 0, none⟩), .int .u64 150] 206)).alloc (.cells #[.pointer (some ⟨7, 147, none⟩), .pointer (some ⟨w.heap.size, 0, none⟩), .int .u64 150] 206)).alloc (.cells #[.int .i64 n, .iface 249 (.agg #[.int .i64 at_])] 145)).alloc (.cells #[.int .i64 at_] 249)).alloc (.cells #[.int .i64 6] 30)).setCell ⟨tb, 0, none⟩ (.int .i64 6)) := by
  have htl : tb < w.heap.size := heap_lt hq
  have hgl := hg.lt
  have h6 := fx_h6
  have h7 := fx_h7
  have h8 := fx_h8
  have h27 := fx_h27
  have h37 := fx_h37
  have h38 := fx_h38
  have h10 := fx_h10
  have h35 := fx_h35
  have h11 := fx_h11
  have h12 := fx_h12
  have f6 := fa_valueOfP
  have f7 := fa_typeP
  have k1 := fa_kindPP
  have k2 := fa_kindP
  have e1 := fa_elemP
  have i1 := fa_implP
  have tO := fa_typeOfP
  have tO2 := fa_typeOfR
  have tO3 := fa_typeOfF
  have a1 := fa_asgPP
  have a2 := fa_asgRP
  have a3 := fa_asgFP
  have v1 := fa_valP
  have n8 := fa_isNilP ⟨w.heap.size, 0, none⟩ ⟨tb, 0, none⟩ ((w.alloc (.cells #[.pointer (some ⟨tb, 0, none⟩)] 147)).alloc (.cells #[.pointer (some ⟨7, 147, none⟩), .pointer (some ⟨w.heap.size, 0, none⟩), .int .u64 150] 206)) (by simp)
  have hg2 : ((w.alloc (.cells #[.pointer (some ⟨tb, 0, none⟩)] 147)).alloc (.cells #[.pointer (some ⟨7, 147, none⟩), .pointer (some ⟨w.heap.size, 0, none⟩), .int .u64 150] 206)).cell? ⟨0, 0, none⟩ = some (.iface 149 (.agg #[.pointer (some ⟨7, 29, none⟩)])) := by
    rw [World.cell?_alloc_lt _ _ ⟨0, 0, none⟩ (by simp only [World.size_alloc]; omega), World.cell?_alloc_lt _ _ ⟨0, 0, none⟩ hgl]; exact hg
  have hq1 : (((((w.alloc (.cells #[.pointer (some ⟨tb, 0, none⟩)] 147)).alloc (.cells #[.pointer (some ⟨7, 147, none⟩), .pointer (some ⟨w.heap.size, 0, none⟩), .int .u64 150] 206)).alloc (.cells #[.pointer (some ⟨7, 147, none⟩), .pointer (some ⟨w.heap.size, 0, none⟩), .int .u64 150] 206)).alloc (.cells #[.int .i64 n, .iface 249 (.agg #[.int .i64 at_])] 145)).alloc (.cells #[.int .i64 at_] 249)).heap[w.heap.size]? = some (.cells #[.pointer (some ⟨tb, 0, none⟩)] 147 (0, 0)) := by
    rw [Below.heap_alloc _ _ _ (by simp only [World.size_alloc]; omega), Below.heap_alloc _ _ _ (by simp only [World.size_alloc]; omega), Below.heap_alloc _ _ _ (by simp only [World.size_alloc]; omega), Below.heap_alloc _ _ _ (by simp only [World.size_alloc]; omega), heap_alloc_new]
  have el := fa_elemVP ⟨w.heap.size, 0, none⟩ ⟨tb, 0, none⟩ (((((w.alloc (.cells #[.pointer (some ⟨tb, 0, none⟩)] 147)).alloc (.cells #[.pointer (some ⟨7, 147, none⟩), .pointer (some ⟨w.heap.size, 0, none⟩), .int .u64 150] 206)).alloc (.cells #[.pointer (some ⟨7, 147, none⟩), .pointer (some ⟨w.heap.size, 0, none⟩), .int .u64 150] 206)).alloc (.cells #[.int .i64 n, .iface 249 (.agg #[.int .i64 at_])] 145)).alloc (.cells #[.int .i64 at_] 249)) (cell_of_heap hq1 0)
  have hq4 : ((((((w.alloc (.cells #[.pointer (some ⟨tb, 0, none⟩)] 147)).alloc (.cells #[.pointer (some ⟨7, 147, none⟩), .pointer (some ⟨w.heap.size, 0, none⟩), .int .u64 150] 206)).alloc (.cells #[.pointer (some ⟨7, 147, none⟩), .pointer (some ⟨w.heap.size, 0, none⟩), .int .u64 150] 206)).alloc (.cells #[.int .i64 n, .iface 249 (.agg #[.int .i64 at_])] 145)).alloc (.cells #[.int .i64 at_] 249)).alloc (.cells #[.int .i64 6] 30)).heap[tb]? = some (.cells #[o0] 30 (0, 0)) := by
    rw [Below.heap_alloc _ _ _ (by simp only [World.size_alloc]; omega), Below.heap_alloc _ _ _ (by simp only [World.size_alloc]; omega), Below.heap_alloc _ _ _ (by simp only [World.size_alloc]; omega), Below.heap_alloc _ _ _ (by simp only [World.size_alloc]; omega), Below.heap_alloc _ _ _ (by simp only [World.size_alloc]; omega), Below.heap_alloc _ _ _ htl]; exact hq
  have hnew := heap_alloc_new (((((w.alloc (.cells #[.pointer (some ⟨tb, 0, none⟩)] 147)).alloc (.cells #[.pointer (some ⟨7, 147, none⟩), .pointer (some ⟨w.heap.size, 0, none⟩), .int .u64 150] 206)).alloc (.cells #[.pointer (some ⟨7, 147, none⟩), .pointer (some ⟨w.heap.size, 0, none⟩), .int .u64 150] 206)).alloc (.cells #[.int .i64 n, .iface 249 (.agg #[.int .i64 at_])] 145)).alloc (.cells #[.int .i64 at_] 249)) (.cells #[.int .i64 6] 30)
  have st := fa_setP ⟨tb, 0, none⟩ ⟨w.heap.size + 1 + 1 + 1 + 1 + 1, 0, none⟩ 6 o0 ((((((w.alloc (.cells #[.pointer (some ⟨tb, 0, none⟩)] 147)).alloc (.cells #[.pointer (some ⟨7, 147, none⟩), .pointer (some ⟨w.heap.size, 0, none⟩), .int .u64 150] 206)).alloc (.cells #[.pointer (some ⟨7, 147, none⟩), .pointer (some ⟨w.heap.size, 0, none⟩), .int .u64 150] 206)).alloc (.cells #[.int .i64 n, .iface 249 (.agg #[.int .i64 at_])] 145)).alloc (.cells #[.int .i64 at_] 249)).alloc (.cells #[.int .i64 6] 30))
    (by have := cell_of_heap hnew 0; simpa using this) (cell_of_heap hq4 0) (frozen_of_heap hq4 0)
  clear hq hq1 hq4 hnew hg
  have na := fa_noAsR
  have nu := fa_unwR
  have na2 := fa_noAsF
  have nu2 := fa_unwF
  go_enter Tryz.func91, Tryz.ntmps91
  go_wp2
  refine wp_loop_rounds 3 ?_
  rw [rounds_succ]
  go_wp2
  rw [rounds_succ]
  go_wp2
  rw [rounds_succ]
  go_wp2
  go_ret
  exact ⟨rfl, rfl⟩

end Go.Proofs.YtabogkonklplcaaGreatDoor
