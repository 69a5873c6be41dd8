import Derived.Test.YtabogkonklplcaaGreatDoorQ14
import Derived.Test.YtabogkonklplcaaGreatDoorQ09

namespace Go.Proofs.YtabogkonklplcaaGreatDoor
open Go.RowKit Go.Extern.Stop Go.Stop Go.Extern
set_option linter.unusedSimpArgs false
set_option linter.unusedVariables false
theorem fa_noIsR (v : Value) (w : World) : (Instr.typeAssert (.iface 145 v) 29 151 true).run Tryz.prog w = .ok (.tuple #[.nilIface, .bool false]) w := run_typeAssert_lacksB Tryz.underlying151 (by kernel_rfl) (by kernel_rfl) v _ w
theorem eq_refP (u : Value) (y : Int) (w : World) : (binOp .eql 29 (.iface 145 u) (.iface 30 (.int .i64 y))).run Tryz.prog w = .ok (.bool false) w := by kernel_rfl
set_option maxRecDepth 20000 in
set_option maxHeartbeats 4000000 in
theorem is_refYes (n y z : Int) (he : ∀ w, (binOp .eql 29 (.iface 30 (.int .i64 y)) (.iface 30 (.int .i64 z))).run Tryz.prog w = .ok (.bool true) w) (w : World) : Calls Tryz.prog 22 #[refusalV n y, .iface 30 (.int .i64 z)] w fun e w' => e = .returned (.bool true) ∧ Below w.heap.size w w' := by
  have h10 := fx_h10
  have tO := fa_typeOfP
  have tC := fa_cmpP
  have ni := fa_noIsR
  have nu := fa_unwR
  have e1 := eq_refP
  go_enter Tryz.func22, Tryz.ntmps22
  go_wp2
  refine wp_loop_rounds 2 ?_
  rw [rounds_succ]
  go_wp2
  rw [rounds_succ]
  go_wp2
  go_ret
  exact ⟨rfl, by go_grown⟩
end Go.Proofs.YtabogkonklplcaaGreatDoor
