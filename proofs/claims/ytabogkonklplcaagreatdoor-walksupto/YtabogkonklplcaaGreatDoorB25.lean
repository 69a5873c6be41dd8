import Derived.Test.YtabogkonklplcaaGreatDoorB24

/- errors.As at *ranges.Missing: what package tree answers is none. -/
namespace Go.Proofs.YtabogkonklplcaaGreatDoor
open Go.RowKit Go.Extern.Stop Go.Stop Go.Extern
set_option linter.unusedSimpArgs false
set_option linter.unusedVariables false

theorem fa_valueOfM (t : Addr) (w : World) : (ReflectliteValue.unpack (.iface 143 (.pointer (some t)))).run Tryz.prog w
    = .ok (.agg #[.pointer (some ⟨7, 143, none⟩), .pointer (some ⟨w.heap.size, 0, none⟩), .int .u64 150]) (w.alloc (.cells #[.pointer (some t)] 143)) := by kernel_rfl
theorem fa_typeM (a : Addr) (w : World) : (ReflectliteValue.methodAny (ReflectliteValue.valueError "reflectlite.Value.Type" 0) (fun t _ _ _ => ReflectliteType.toType t) #[.agg #[.pointer (some ⟨7, 143, none⟩), .pointer (some a), .int .u64 150]]).run Tryz.prog w
    = .ok (.iface 149 (.agg #[.pointer (some ⟨7, 143, none⟩)])) w := by kernel_rfl
theorem fa_kindPM (w : World) : ((ReflectliteType.abiMethod fun t => (fun a : Nat => Value.int IntKind.u8 (a : Int)) <$> Rtype.kind t) #[.pointer (some ⟨7, 143, none⟩)]).run Tryz.prog w = .ok (.int .u8 22) w := by kernel_rfl
theorem fa_kindM (w : World) : ((ReflectliteType.abiMethod fun t => (fun a : Nat => Value.int IntKind.u8 (a : Int)) <$> Rtype.kind t) #[.pointer (some ⟨7, 141, none⟩)]).run Tryz.prog w = .ok (.int .u8 25) w := by kernel_rfl
theorem fa_partsM (a : Addr) (w : World) : (ReflectliteValue.parts (.agg #[.pointer (some ⟨7, 143, none⟩), .pointer (some a), .int .u64 150])).run Tryz.prog w = .ok (some (143, a, 150)) w := by kernel_rfl
theorem fa_isNilM (a p : Addr) (W : World) (ha : W.cell? a = some (.pointer (some p))) :
    (ReflectliteValue.method (ReflectliteValue.valueError "reflectlite.Value.IsNil" 0) ReflectliteValue.isNil #[.agg #[.pointer (some ⟨7, 143, none⟩), .pointer (some a), .int .u64 150]]).run Tryz.prog W = .ok (.bool false) W := by
  rw [rlm]
  simp only [Sem.run_bind, fa_partsM, Result.andThen]
  simp [ReflectliteValue.isNil, loadVar, isAgg, underlying, Tryz.underlying143, ha, Result.andThen]
theorem fa_elemM (w : World) : (ReflectliteType.method ReflectliteType.elem #[.agg #[.pointer (some ⟨7, 143, none⟩)]]).run Tryz.prog w = .ok (.iface 149 (.agg #[.pointer (some ⟨7, 141, none⟩)])) w := by kernel_rfl
theorem fa_implM (w : World) : (ReflectliteType.relation "Implements" ReflectliteType.implements_ #[.agg #[.pointer (some ⟨7, 141, none⟩)], .iface 149 (.agg #[.pointer (some ⟨7, 29, none⟩)])]).run Tryz.prog w = .ok (.bool true) w := by kernel_rfl
theorem fa_asgRM (w : World) : (ReflectliteType.relation "AssignableTo" ReflectliteType.assignableTo #[.agg #[.pointer (some ⟨7, 145, none⟩)], .iface 149 (.agg #[.pointer (some ⟨7, 141, none⟩)])]).run Tryz.prog w = .ok (.bool false) w := by kernel_rfl
theorem fa_asgPM (w : World) : (ReflectliteType.relation "AssignableTo" ReflectliteType.assignableTo #[.agg #[.pointer (some ⟨7, 30, none⟩)], .iface 149 (.agg #[.pointer (some ⟨7, 141, none⟩)])]).run Tryz.prog w = .ok (.bool false) w := by kernel_rfl
theorem fa_asgFM (w : World) : (ReflectliteType.relation "AssignableTo" ReflectliteType.assignableTo #[.agg #[.pointer (some ⟨7, 249, none⟩)], .iface 149 (.agg #[.pointer (some ⟨7, 141, none⟩)])]).run Tryz.prog w = .ok (.bool false) w := by kernel_rfl
theorem fa_noAsP (v : Value) (w : World) : (Instr.typeAssert (.iface 30 v) 29 244 true).run Tryz.prog w = .ok (.tuple #[.nilIface, .bool false]) w := run_typeAssert_lacksB Tryz.underlying244 (by kernel_rfl) (by kernel_rfl) v _ w
theorem fa_noUnwP (v : Value) (w : World) : (Instr.typeAssert (.iface 30 v) 29 154 true).run Tryz.prog w = .ok (.tuple #[.nilIface, .bool false]) w := run_typeAssert_lacksB Tryz.underlying154 (by kernel_rfl) (by kernel_rfl) v _ w
theorem fa_noUnwsP (v : Value) (w : World) : (Instr.typeAssert (.iface 30 v) 29 156 true).run Tryz.prog w = .ok (.tuple #[.nilIface, .bool false]) w := run_typeAssert_lacksB Tryz.underlying156 (by kernel_rfl) (by kernel_rfl) v _ w

set_option maxRecDepth 20000 in
set_option maxHeartbeats 8000000 in
theorem as_MP (n y : Int) (tb : Nat) (o0 : Value) (w : World) (hg : Glob w) (hq : w.heap[tb]? = some (.cells #[o0] 141 (0, 0))) :
    Calls Tryz.prog 91 #[.iface 145 (.agg #[.int .i64 n, .iface 30 (.int .i64 y)]), .iface 143 (.pointer (some ⟨tb, 0, none⟩))] w fun e w' => e = .returned (.bool false) ∧ Below w.heap.size w w' := by
  have htl : tb < w.heap.size := heap_lt hq
  have hgl := hg.lt
  have h6 := fx_h6
  have h7 := fx_h7
  have h8 := fx_h8
  have h27 := fx_h27
  have h37 := fx_h37
  have h38 := fx_h38
  have h10 := fx_h10
  have h35 := fx_h35
  have f6 := fa_valueOfM
  have f7 := fa_typeM
  have k1 := fa_kindPM
  have k2 := fa_kindM
  have e1 := fa_elemM
  have i1 := fa_implM
  have tO := fa_typeOfP
  have tO2 := fa_typeOfR
  have tO3 := fa_typeOfF
  have a1 := fa_asgPM
  have a2 := fa_asgRM
  have a3 := fa_asgFM
  have n8 := fa_isNilM ⟨w.heap.size, 0, none⟩ ⟨tb, 0, none⟩ ((w.alloc (.cells #[.pointer (some ⟨tb, 0, none⟩)] 143)).alloc (.cells #[.pointer (some ⟨7, 143, none⟩), .pointer (some ⟨w.heap.size, 0, none⟩), .int .u64 150] 206)) (by simp)
  have hg2 : ((w.alloc (.cells #[.pointer (some ⟨tb, 0, none⟩)] 143)).alloc (.cells #[.pointer (some ⟨7, 143, none⟩), .pointer (some ⟨w.heap.size, 0, none⟩), .int .u64 150] 206)).cell? ⟨0, 0, none⟩ = some (.iface 149 (.agg #[.pointer (some ⟨7, 29, none⟩)])) := by
    rw [World.cell?_alloc_lt _ _ ⟨0, 0, none⟩ (by simp only [World.size_alloc]; omega), World.cell?_alloc_lt _ _ ⟨0, 0, none⟩ hgl]; exact hg
  clear hq hg
  have na := fa_noAsR
  have nu := fa_unwR
  have na2 := fa_noAsF
  have nu2 := fa_unwF
  have na3 := fa_noAsP
  have nu3 := fa_noUnwP
  have nu4 := fa_noUnwsP
  go_enter Tryz.func91, Tryz.ntmps91
  go_wp2
  refine wp_loop_rounds 2 ?_
  rw [rounds_succ]
  go_wp2
  rw [rounds_succ]
  go_wp2
  go_ret
  exact ⟨rfl, by go_grown⟩

set_option maxRecDepth 20000 in
set_option maxHeartbeats 8000000 in
theorem as_MF (n at_ : Int) (tb : Nat) (o0 : Value) (w : World) (hg : Glob w) (hq : w.heap[tb]? = some (.cells #[o0] 141 (0, 0))) :
    Calls Tryz.prog 91 #[.iface 145 (.agg #[.int .i64 n, .iface 249 (.agg #[.int .i64 at_])]), .iface 143 (.pointer (some ⟨tb, 0, none⟩))] w fun e w' => e = .returned (.bool false) ∧ Below w.heap.size w w' := by
  have htl : tb < w.heap.size := heap_lt hq
  have hgl := hg.lt
  have h6 := fx_h6
  have h7 := fx_h7
  have h8 := fx_h8
  have h27 := fx_h27
  have h37 := fx_h37
  have h38 := fx_h38
  have h10 := fx_h10
  have h35 := fx_h35
  have f6 := fa_valueOfM
  have f7 := fa_typeM
  have k1 := fa_kindPM
  have k2 := fa_kindM
  have e1 := fa_elemM
  have i1 := fa_implM
  have tO := fa_typeOfP
  have tO2 := fa_typeOfR
  have tO3 := fa_typeOfF
  have a1 := fa_asgPM
  have a2 := fa_asgRM
  have a3 := fa_asgFM
  have n8 := fa_isNilM ⟨w.heap.size, 0, none⟩ ⟨tb, 0, none⟩ ((w.alloc (.cells #[.pointer (some ⟨tb, 0, none⟩)] 143)).alloc (.cells #[.pointer (some ⟨7, 143, none⟩), .pointer (some ⟨w.heap.size, 0, none⟩), .int .u64 150] 206)) (by simp)
  have hg2 : ((w.alloc (.cells #[.pointer (some ⟨tb, 0, none⟩)] 143)).alloc (.cells #[.pointer (some ⟨7, 143, none⟩), .pointer (some ⟨w.heap.size, 0, none⟩), .int .u64 150] 206)).cell? ⟨0, 0, none⟩ = some (.iface 149 (.agg #[.pointer (some ⟨7, 29, none⟩)])) := by
    rw [World.cell?_alloc_lt _ _ ⟨0, 0, none⟩ (by simp only [World.size_alloc]; omega), World.cell?_alloc_lt _ _ ⟨0, 0, none⟩ hgl]; exact hg
  clear hq hg
  have na := fa_noAsR
  have nu := fa_unwR
  have na2 := fa_noAsF
  have nu2 := fa_unwF
  have na3 := fa_noAsP
  have nu3 := fa_noUnwP
  have nu4 := fa_noUnwsP
  go_enter Tryz.func91, Tryz.ntmps91
  go_wp2
  refine wp_loop_rounds 3 ?_
  rw [rounds_succ]
  go_wp2
  rw [rounds_succ]
  go_wp2
  rw [rounds_succ]
  go_wp2
  go_ret
  exact ⟨rfl, by go_grown⟩

end Go.Proofs.YtabogkonklplcaaGreatDoor

/- margin.fault at the errors that the inner packages answer. -/
namespace Go.Proofs.YtabogkonklplcaaGreatDoor
open Go.RowKit
set_option linter.unusedSimpArgs false
set_option linter.unusedVariables false

theorem setCell_heap1 {w : World} {b : Nat} {o v : Value} {t : TypeId} (h : w.heap[b]? = some (.cells #[o] t (0, 0))) : (w.setCell ⟨b, 0, none⟩ v).heap[b]? = some (.cells #[v] t (0, 0)) := by
  rw [heap_setCell_same w b 0 _ _ _ h]; simp
theorem setCell_heap2 {w : World} {b : Nat} {o0 o1 v0 v1 : Value} {t : TypeId} (h : w.heap[b]? = some (.cells #[o0, o1] t (0, 0))) : ((w.setCell ⟨b, 0, none⟩ v0).setCell ⟨b, 1, none⟩ v1).heap[b]? = some (.cells #[v0, v1] t (0, 0)) := by
  have h1 := heap_setCell_same w b 0 _ _ v0 h
  rw [heap_setCell_same _ b 1 _ _ _ h1]; simp

theorem as_R' (n : Int) (y : Value) (hy1 : y.oneCell' = true) (tb : Nat) (o0 o1 : Value) (w : World) (hg : Glob w) (hq : w.heap[tb]? = some (.cells #[o0, o1] 145 (0, 0))) :
    Calls Tryz.prog 91 #[.iface 145 (.agg #[.int .i64 n, y]), .iface 146 (.pointer (some ⟨tb, 0, none⟩))] w fun e w' => e = .returned (.bool true) ∧
      Keeps (fun b => b = tb) w w' ∧ w'.heap[tb]? = some (.cells #[.int .i64 n, y] 145 (0, 0)) := by
  refine (as_R n y hy1 tb o0 o1 w hg hq).mono ?_
  rintro e w' ⟨rfl, rfl⟩
  have htl := heap_lt hq
  refine ⟨rfl, ?_, setCell_heap2 (o0 := o0) (o1 := o1) ?_⟩
  · exact ((((((Keeps.refl (fun b => b = tb) w).alloc _).alloc _).alloc _).alloc _).setCell (p := ⟨tb, 0, none⟩) (.inl rfl) _).setCell (p := ⟨tb, 1, none⟩) (.inl rfl) _
  · rw [Below.heap_alloc _ _ _ (by simp only [World.size_alloc]; omega), Below.heap_alloc _ _ _ (by simp only [World.size_alloc]; omega), Below.heap_alloc _ _ _ (by simp only [World.size_alloc]; omega), Below.heap_alloc _ _ _ htl]; exact hq

theorem as_P' (n y : Int) (tb : Nat) (o0 : Value) (w : World) (hg : Glob w) (hq : w.heap[tb]? = some (.cells #[o0] 30 (0, 0))) :
    Calls Tryz.prog 91 #[.iface 145 (.agg #[.int .i64 n, .iface 30 (.int .i64 y)]), .iface 147 (.pointer (some ⟨tb, 0, none⟩))] w fun e w' => e = .returned (.bool true) ∧
      Keeps (fun b => b = tb) w w' ∧ w'.heap[tb]? = some (.cells #[.int .i64 y] 30 (0, 0)) := by
  refine (as_P n y 0 tb o0 w hg hq).mono ?_
  rintro e w' ⟨rfl, rfl⟩
  have htl := heap_lt hq
  refine ⟨rfl, ?_, setCell_heap1 (o := o0) ?_⟩
  · exact ((((((Keeps.refl (fun b => b = tb) w).alloc _).alloc _).alloc _).alloc _).alloc _).setCell (p := ⟨tb, 0, none⟩) (.inl rfl) _
  · rw [Below.heap_alloc _ _ _ (by simp only [World.size_alloc]; omega), Below.heap_alloc _ _ _ (by simp only [World.size_alloc]; omega), Below.heap_alloc _ _ _ (by simp only [World.size_alloc]; omega), Below.heap_alloc _ _ _ (by simp only [World.size_alloc]; omega), Below.heap_alloc _ _ _ htl]; exact hq

theorem as_F' (n at_ : Int) (tb : Nat) (o0 : Value) (w : World) (hg : Glob w) (hq : w.heap[tb]? = some (.cells #[o0] 30 (0, 0))) :
    Calls Tryz.prog 91 #[.iface 145 (.agg #[.int .i64 n, .iface 249 (.agg #[.int .i64 at_])]), .iface 147 (.pointer (some ⟨tb, 0, none⟩))] w fun e w' => e = .returned (.bool true) ∧
      Keeps (fun b => b = tb) w w' ∧ w'.heap[tb]? = some (.cells #[.int .i64 6] 30 (0, 0)) := by
  refine (as_F n 0 at_ tb o0 w hg hq).mono ?_
  rintro e w' ⟨rfl, rfl⟩
  have htl := heap_lt hq
  refine ⟨rfl, ?_, setCell_heap1 (o := o0) ?_⟩
  · exact (((((((Keeps.refl (fun b => b = tb) w).alloc _).alloc _).alloc _).alloc _).alloc _).alloc _).setCell (p := ⟨tb, 0, none⟩) (.inl rfl) _
  · rw [Below.heap_alloc _ _ _ (by simp only [World.size_alloc]; omega), Below.heap_alloc _ _ _ (by simp only [World.size_alloc]; omega), Below.heap_alloc _ _ _ (by simp only [World.size_alloc]; omega), Below.heap_alloc _ _ _ (by simp only [World.size_alloc]; omega), Below.heap_alloc _ _ _ (by simp only [World.size_alloc]; omega), Below.heap_alloc _ _ _ htl]; exact hq

theorem Glob.keeps {F : Nat → Prop} {w w' : World} (h : Glob w) (hk : Keeps F w w') (hF : ¬ F 0) : Glob w' := hk.cell h hF
theorem Glob.below {w w' : World} (h : Glob w) (hk : Below w.heap.size w w') : Glob w' := h.keeps (Keeps.of_below (F := fun _ => False) hk) (fun e => e)

/-- fault, given what the first errors.As and the last one answer. -/
theorem fault_of (n y : Int) (v : Value) (hv : v.oneCell' = true) (w : World) (hg : Glob w)
    (h0 : ∀ (tb : Nat) (o0 : Value) (w1 : World), Glob w1 → w1.heap[tb]? = some (.cells #[o0] 141 (0, 0)) →
      Calls Tryz.prog 91 #[.iface 145 (.agg #[.int .i64 n, v]), .iface 143 (.pointer (some ⟨tb, 0, none⟩))] w1 fun e w' => e = .returned (.bool false) ∧ Below w1.heap.size w1 w')
    (h2 : ∀ (tb : Nat) (o0 : Value) (w1 : World), Glob w1 → w1.heap[tb]? = some (.cells #[o0] 30 (0, 0)) →
      Calls Tryz.prog 91 #[.iface 145 (.agg #[.int .i64 n, v]), .iface 147 (.pointer (some ⟨tb, 0, none⟩))] w1 fun e w' => e = .returned (.bool true) ∧
        Keeps (fun b => b = tb) w1 w' ∧ w'.heap[tb]? = some (.cells #[.int .i64 y] 30 (0, 0))) :
    Calls Tryz.prog 46 #[.iface 145 (.agg #[.int .i64 n, v])] w fun e w' => e = .returned (.iface 32 (.agg #[.int .i64 n, .int .i64 y])) ∧ Below w.heap.size w w' := by
  have hgl := hg.lt
  have hB0 : Below w.heap.size w (w.alloc (.cells #[.int .i64 0] 141)) := (Below.refl _ w).alloc (Nat.le_refl _) _
  have C0 := hid (h0 w.heap.size (.int .i64 0) (w.alloc (.cells #[.int .i64 0] 141)) (hg.below hB0) (heap_alloc_new w _))
  have HG := hid hg
  have HB0 := hid hB0
  have H2 := hid h2
  have HV := hid hv
  clear hg hB0 h2 h0 hv
  go_enter Tryz.func46, Tryz.ntmps46
  go_wp2_with (first
    | (go_at_call 91
       refine C0.out.mono ?_
       clear C0
       rintro e w0 ⟨rfl, hb0⟩
       have hB : Below w.heap.size w ((w0.alloc (.cells #[.int .i64 0, .nilIface] 145)).alloc (.cells #[.int .i64 0] 30)) := ((HB0.out.trans (hb0.mono (by simp))).alloc (by have := hb0.size; simp at this; omega) _).alloc (by have := hb0.size; simp at this; simp; omega) _
       have C1 := hid (as_R' n v HV.out w0.heap.size (.int .i64 0) .nilIface ((w0.alloc (.cells #[.int .i64 0, .nilIface] 145)).alloc (.cells #[.int .i64 0] 30)) (HG.out.below hB) (by rw [Below.heap_alloc _ _ _ (by simp), heap_alloc_new]))
       have HB := hid hB
       have Z0 := hid hb0.size
       clear hB hb0 HB0)
    | (go_at_call 91
       refine C1.out.mono ?_
       clear C1
       rintro e w1 ⟨rfl, hk1, hq1⟩
       have hwhy : w1.heap[w0.heap.size + 1]? = some (.cells #[.int .i64 0] 30 (0, 0)) := by
         rw [hk1.block (w0.heap.size + 1) (by simp only [World.size_alloc]; omega) (by omega)]
         have := heap_alloc_new (w0.alloc (.cells #[.int .i64 0, .nilIface] 145)) (.cells #[.int .i64 0] 30)
         simpa using this
       have HGL := hid ((HG.out.below HB.out).keeps hk1 (by have := Z0.out; simp at this; omega))
       have C2 := hid (H2.out (w0.heap.size + 1) (.int .i64 0) w1 HGL.out hwhy)
       have HK1 := hid hk1
       have HQ1 := hid hq1
       clear hk1 hq1 hwhy)
    | (go_at_call 91
       refine C2.out.mono ?_
       clear C2
       rintro e w2 ⟨rfl, hk2, hq2⟩
       have hr2 : w2.heap[w0.heap.size]? = some (.cells #[.int .i64 n, v] 145 (0, 0)) := by rw [hk2.block w0.heap.size (heap_lt HQ1.out) (by omega)]; exact HQ1.out
       have hc0 : w2.cell? ⟨w0.heap.size, 0, none⟩ = some (.int .i64 n) := cell_of_heap hr2 0
       have hc1 : w2.cell? ⟨w0.heap.size + 1, 0, none⟩ = some (.int .i64 y) := cell_of_heap hq2 0
       have HK2 := hid hk2
       clear hk2 hq2 hr2))
  go_ret
  refine ⟨rfl, ?_⟩
  have z0 := Z0.out
  simp only [World.size_alloc] at z0
  have k1 : Keeps (fun b => w.heap.size ≤ b) w w1 := ((Keeps.of_below (F := fun b => w.heap.size ≤ b) HB.out)).trans (HK1.out.mono (fun k _ e => .inl (by omega)))
  have k2 : Keeps (fun b => w.heap.size ≤ b) w w2 := k1.trans (HK2.out.mono (fun k _ e => .inl (by omega)))
  exact ⟨k2.os, k2.tape, k2.output, k2.size, fun k hk => k2.block k hk (by omega)⟩

theorem fault_P (n y : Int) (w : World) (hg : Glob w) :
    Calls Tryz.prog 46 #[.iface 145 (.agg #[.int .i64 n, .iface 30 (.int .i64 y)])] w fun e w' => e = .returned (.iface 32 (.agg #[.int .i64 n, .int .i64 y])) ∧ Below w.heap.size w w' :=
  fault_of n y _ rfl w hg (fun tb o0 w1 h1 h2 => as_MP n y tb o0 w1 h1 h2) (fun tb o0 w1 h1 h2 => as_P' n y tb o0 w1 h1 h2)
theorem fault_F (n at_ : Int) (w : World) (hg : Glob w) :
    Calls Tryz.prog 46 #[.iface 145 (.agg #[.int .i64 n, .iface 249 (.agg #[.int .i64 at_])])] w fun e w' => e = .returned (.iface 32 (.agg #[.int .i64 n, .int .i64 6])) ∧ Below w.heap.size w w' :=
  fault_of n 6 _ rfl w hg (fun tb o0 w1 h1 h2 => as_MF n at_ tb o0 w1 h1 h2) (fun tb o0 w1 h1 h2 => as_F' n at_ tb o0 w1 h1 h2)

end Go.Proofs.YtabogkonklplcaaGreatDoor
