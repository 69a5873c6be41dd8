import Derived.Test.YtabogkonklplcaaGreatDoorJ03
import Derived.LaidEql
import Derived.Stop.Asserts
import Derived.RowKitTokens
namespace Go.Proofs.YtabogkonklplcaaGreatDoor
set_option linter.unusedSimpArgs false
set_option linter.unusedVariables false
set_option maxRecDepth 20000
set_option maxHeartbeats 8000000
section
open Go.RowKit Go.Extern.Stop Go.Stop Go.Extern
abbrev hdl (t:Nat):Value:=.pointer (some ⟨7,t,none⟩)
theorem JP (w:World) :
 Calls Tryz.prog 46 #[.nilIface] w fun e w'=>e=.returned .nilIface∧Below w.heap.size w w':=by
 go_enter Tryz.func46,Tryz.ntmps46
 go_wp2
 go_ret
 refine⟨rfl,?_⟩
 go_grown
theorem ZfJ (t:Addr) (w:World):(ReflectliteValue.unpack (.iface 146 (.pointer (some t)))).run Tryz.prog w
 = .ok (.agg #[.pointer (some ⟨7,146,none⟩),.pointer (some ⟨w.heap.size,0,none⟩),.int .u64 150]) (w.alloc (.cells #[.pointer (some t)] 146)):=by kernel_rfl
theorem ZbG (t:Addr) (w:World):(ReflectliteValue.unpack (.iface 147 (.pointer (some t)))).run Tryz.prog w
 = .ok (.agg #[.pointer (some ⟨7,147,none⟩),.pointer (some ⟨w.heap.size,0,none⟩),.int .u64 150]) (w.alloc (.cells #[.pointer (some t)] 147)):=by kernel_rfl
theorem fa_typeR (a : Addr) (w : World) : (ReflectliteValue.methodAny (ReflectliteValue.valueError "reflectlite.Value.Type" 0) (fun t _ _ _ => ReflectliteType.toType t) #[.agg #[.pointer (some ⟨7, 146, none⟩), .pointer (some a), .int .u64 150]]).run Tryz.prog w
 = .ok (.iface 149 (.agg #[.pointer (some ⟨7,146,none⟩)])) w:=by kernel_rfl
theorem ZbE (a : Addr) (w : World) : (ReflectliteValue.methodAny (ReflectliteValue.valueError "reflectlite.Value.Type" 0) (fun t _ _ _ => ReflectliteType.toType t) #[.agg #[.pointer (some ⟨7, 147, none⟩), .pointer (some a), .int .u64 150]]).run Tryz.prog w
 = .ok (.iface 149 (.agg #[.pointer (some ⟨7,147,none⟩)])) w:=by kernel_rfl
theorem ZfB (w:World):((ReflectliteType.abiMethod fun t=>(fun a:Nat=>Value.int IntKind.u8 (a:Int)) <$> Rtype.kind t) #[.pointer (some ⟨7,146,none⟩)]).run Tryz.prog w=.ok (.int .u8 22) w:=by kernel_rfl
theorem Zbz (w:World):((ReflectliteType.abiMethod fun t=>(fun a:Nat=>Value.int IntKind.u8 (a:Int)) <$> Rtype.kind t) #[.pointer (some ⟨7,147,none⟩)]).run Tryz.prog w=.ok (.int .u8 22) w:=by kernel_rfl
theorem fa_kindR (w:World):((ReflectliteType.abiMethod fun t=>(fun a:Nat=>Value.int IntKind.u8 (a:Int)) <$> Rtype.kind t) #[.pointer (some ⟨7,145,none⟩)]).run Tryz.prog w=.ok (.int .u8 25) w:=by kernel_rfl
theorem Zby (w:World):((ReflectliteType.abiMethod fun t=>(fun a:Nat=>Value.int IntKind.u8 (a:Int)) <$> Rtype.kind t) #[.pointer (some ⟨7,30,none⟩)]).run Tryz.prog w=.ok (.int .u8 2) w:=by kernel_rfl
theorem rlm (z:Sem Value) (f:TypeId→Addr→Nat→Nat→Sem Value) (v:Value) :
 ReflectliteValue.method z f #[v]=(do match ← ReflectliteValue.parts v with|none=>z|some (t,a,fl)=>f t a fl (fl % 32)):=rfl
theorem Zc0 (a:Addr) (w:World):(ReflectliteValue.parts (.agg #[.pointer (some ⟨7,146,none⟩),.pointer (some a),.int .u64 150])).run Tryz.prog w=.ok (some (146,a,150)) w:=by kernel_rfl
theorem ZfA (a p:Addr) (W:World) (ha:W.cell? a=some (.pointer (some p))) :
 (ReflectliteValue.method (ReflectliteValue.valueError "reflectlite.Value.IsNil" 0) ReflectliteValue.isNil #[.agg #[.pointer (some ⟨7, 146, none⟩), .pointer (some a), .int .u64 150]]).run Tryz.prog W = .ok (.bool false) W := by
 rw[rlm]
 simp only[Sem.run_bind,Zc0,Result.andThen]
 simp[ReflectliteValue.isNil,loadVar,isAgg,underlying,Tryz.underlying146,ha,Result.andThen]
theorem fa_elemR (w:World):(ReflectliteType.method ReflectliteType.elem #[.agg #[.pointer (some ⟨7,146,none⟩)]]).run Tryz.prog w=.ok (.iface 149 (.agg #[.pointer (some ⟨7,145,none⟩)])) w:=by kernel_rfl
theorem fa_implR (w : World) : (ReflectliteType.relation "Implements" ReflectliteType.implements_ #[.agg #[.pointer (some ⟨7, 145, none⟩)], .iface 149 (.agg #[.pointer (some ⟨7, 29, none⟩)])]).run Tryz.prog w = .ok (.bool true) w := by kernel_rfl
theorem Zfw (w:World):(Rtype.elem? 146).run Tryz.prog w=.ok (some 145) w:=by kernel_rfl
theorem fa_mkR (p:Addr) (w:World):(ReflectliteValue.mk 145 p ReflectliteValue.flagAddr).run Tryz.prog w=.ok (.agg #[.pointer (some ⟨7,145,none⟩),.pointer (some p),.int .u64 409]) w:=by kernel_rfl
theorem Zfy (a p:Addr) (W:World) (ha:W.cell? a=some (.pointer (some p))) :
 (ReflectliteValue.method (ReflectliteValue.valueError "reflectlite.Value.Elem" 0) ReflectliteValue.elem #[.agg #[.pointer (some ⟨7, 146, none⟩), .pointer (some a), .int .u64 150]]).run Tryz.prog W
   = .ok (.agg #[.pointer (some ⟨7,145,none⟩),.pointer (some p),.int .u64 409]) W:=by
 rw[rlm]
 simp only[Sem.run_bind,Zc0,Result.andThen]
 simp[ReflectliteValue.elem,loadVar,isAgg,underlying,Tryz.underlying146,ha,Result.andThen,Zfw,fa_mkR]
theorem ZcZ (a:Addr) (w:World):(ReflectliteValue.parts (.agg #[.pointer (some ⟨7,147,none⟩),.pointer (some a),.int .u64 150])).run Tryz.prog w=.ok (some (147,a,150)) w:=by kernel_rfl
theorem Zbx (a p:Addr) (W:World) (ha:W.cell? a=some (.pointer (some p))) :
 (ReflectliteValue.method (ReflectliteValue.valueError "reflectlite.Value.IsNil" 0) ReflectliteValue.isNil #[.agg #[.pointer (some ⟨7, 147, none⟩), .pointer (some a), .int .u64 150]]).run Tryz.prog W = .ok (.bool false) W := by
 rw[rlm]
 simp only[Sem.run_bind,ZcZ,Result.andThen]
 simp[ReflectliteValue.isNil,loadVar,isAgg,underlying,Tryz.underlying147,ha,Result.andThen]
theorem Zbu (w:World):(ReflectliteType.method ReflectliteType.elem #[.agg #[.pointer (some ⟨7,147,none⟩)]]).run Tryz.prog w=.ok (.iface 149 (.agg #[.pointer (some ⟨7,30,none⟩)])) w:=by kernel_rfl
theorem Zbw (w : World) : (ReflectliteType.relation "Implements" ReflectliteType.implements_ #[.agg #[.pointer (some ⟨7, 30, none⟩)], .iface 149 (.agg #[.pointer (some ⟨7, 29, none⟩)])]).run Tryz.prog w = .ok (.bool true) w := by kernel_rfl
theorem Zfv (w:World):(Rtype.elem? 147).run Tryz.prog w=.ok (some 30) w:=by kernel_rfl
theorem fa_mkP (p:Addr) (w:World):(ReflectliteValue.mk 30 p ReflectliteValue.flagAddr).run Tryz.prog w=.ok (.agg #[.pointer (some ⟨7,30,none⟩),.pointer (some p),.int .u64 386]) w:=by kernel_rfl
theorem Zbv (a p:Addr) (W:World) (ha:W.cell? a=some (.pointer (some p))) :
 (ReflectliteValue.method (ReflectliteValue.valueError "reflectlite.Value.Elem" 0) ReflectliteValue.elem #[.agg #[.pointer (some ⟨7, 147, none⟩), .pointer (some a), .int .u64 150]]).run Tryz.prog W
   = .ok (.agg #[.pointer (some ⟨7,30,none⟩),.pointer (some p),.int .u64 386]) W:=by
 rw[rlm]
 simp only[Sem.run_bind,ZcZ,Result.andThen]
 simp[ReflectliteValue.elem,loadVar,isAgg,underlying,Tryz.underlying147,ha,Result.andThen,Zfv,fa_mkP]
theorem XO (v:Value) (w:World):(ReflectliteType.typeOf #[.iface 145 v]).run Tryz.prog w=.ok (.iface 149 (.agg #[.pointer (some ⟨7,145,none⟩)])) w:=by kernel_rfl
theorem YK (v:Value) (w:World):(ReflectliteType.typeOf #[.iface 30 v]).run Tryz.prog w=.ok (.iface 149 (.agg #[.pointer (some ⟨7,30,none⟩)])) w:=by kernel_rfl
theorem Zau (v:Value) (w:World):(ReflectliteType.typeOf #[.iface 249 v]).run Tryz.prog w=.ok (.iface 149 (.agg #[.pointer (some ⟨7,249,none⟩)])) w:=by kernel_rfl
theorem fa_asgRR (w : World) : (ReflectliteType.relation "AssignableTo" ReflectliteType.assignableTo #[.agg #[.pointer (some ⟨7, 145, none⟩)], .iface 149 (.agg #[.pointer (some ⟨7, 145, none⟩)])]).run Tryz.prog w = .ok (.bool true) w := by kernel_rfl
theorem Zbt (w : World) : (ReflectliteType.relation "AssignableTo" ReflectliteType.assignableTo #[.agg #[.pointer (some ⟨7, 145, none⟩)], .iface 149 (.agg #[.pointer (some ⟨7, 30, none⟩)])]).run Tryz.prog w = .ok (.bool false) w := by kernel_rfl
theorem Zbr (w : World) : (ReflectliteType.relation "AssignableTo" ReflectliteType.assignableTo #[.agg #[.pointer (some ⟨7, 30, none⟩)], .iface 149 (.agg #[.pointer (some ⟨7, 30, none⟩)])]).run Tryz.prog w = .ok (.bool true) w := by kernel_rfl
theorem ZcU (w : World) : (ReflectliteType.relation "AssignableTo" ReflectliteType.assignableTo #[.agg #[.pointer (some ⟨7, 249, none⟩)], .iface 149 (.agg #[.pointer (some ⟨7, 30, none⟩)])]).run Tryz.prog w = .ok (.bool false) w := by kernel_rfl
theorem fa_valR (n:Int) (y:Value) (w:World):(ReflectliteValue.unpack (.iface 145 (.agg #[.int .i64 n,y]))).run Tryz.prog w
 = .ok (.agg #[.pointer (some ⟨7,145,none⟩),.pointer (some ⟨w.heap.size,0,none⟩),.int .u64 153]) (w.alloc (.cells #[.int .i64 n,y] 145)):=by kernel_rfl
theorem ZbF (y:Int) (w:World):(ReflectliteValue.unpack (.iface 30 (.int .i64 y))).run Tryz.prog w
 = .ok (.agg #[.pointer (some ⟨7,30,none⟩),.pointer (some ⟨w.heap.size,0,none⟩),.int .u64 130]) (w.alloc (.cells #[.int .i64 y] 30)):=by kernel_rfl
theorem rls (v x:Value):ReflectliteValue.set #[v,x]=(do
 let (some (dst,a,fl),some (src,b,_)):=(← ReflectliteValue.parts v,← ReflectliteValue.parts x)
  | unsupported (.noEntry "extern/(internal/reflectlite.Value).Set.zeroValue")
 if fl / ReflectliteValue.flagAddr % 2 == 0 then unsupported (.noEntry "extern/(internal/reflectlite.Value).Set.unaddressable")
 let val ← loadVar src b
 if ← Rtype.directlyAssignable dst src then storeVar dst a val
 else if ← Rtype.implements dst src then
  if (← Rtype.kind src) == 20 then
   match val with
   | .nilIface => unsupported (.noEntry "extern/reflectlite: a nil value of one interface type handed on as a value of another")
   | _=>storeVar dst a val
  else storeVar dst a (.iface src val)
 else panicString ("reflectlite.Set: value of type " ++ (← Rtype.spelt src) ++ " is not assignable to type " ++ (← Rtype.spelt dst))
 pure (.tuple #[])):=rfl
theorem ZfG (a:Addr) (w:World):(ReflectliteValue.parts (.agg #[.pointer (some ⟨7,145,none⟩),.pointer (some a),.int .u64 409])).run Tryz.prog w=.ok (some (145,a,409)) w:=by kernel_rfl
theorem ZfH (a:Addr) (w:World):(ReflectliteValue.parts (.agg #[.pointer (some ⟨7,145,none⟩),.pointer (some a),.int .u64 153])).run Tryz.prog w=.ok (some (145,a,153)) w:=by kernel_rfl
theorem ZfE (a:Addr) (w:World):(ReflectliteValue.parts (.agg #[.pointer (some ⟨7,30,none⟩),.pointer (some a),.int .u64 386])).run Tryz.prog w=.ok (some (30,a,386)) w:=by kernel_rfl
theorem ZfF (a:Addr) (w:World):(ReflectliteValue.parts (.agg #[.pointer (some ⟨7,30,none⟩),.pointer (some a),.int .u64 130])).run Tryz.prog w=.ok (some (30,a,130)) w:=by kernel_rfl
theorem fa_dirR (w:World):(Rtype.directlyAssignable 145 145).run Tryz.prog w=.ok true w:=by kernel_rfl
theorem fa_dirP (w:World):(Rtype.directlyAssignable 30 30).run Tryz.prog w=.ok true w:=by kernel_rfl
theorem ZbD (ta b:Addr) (y:Int) (old:Value) (W:World) (hb:W.cell? b=some (.int .i64 y)) (ht:W.cell? ta=some old) (hf:W.frozen? ta=false) :
 (ReflectliteValue.set #[.agg #[.pointer (some ⟨7,30,none⟩),.pointer (some ta),.int .u64 386],.agg #[.pointer (some ⟨7,30,none⟩),.pointer (some b),.int .u64 130]]).run Tryz.prog W
   = .ok (.tuple #[]) (W.setCell ta (.int .i64 y)):=by
 rw[rls]
 simp only[Sem.run_bind,ZfE,ZfF,Result.andThen]
 simp[ReflectliteValue.flagAddr,loadVar,isAgg,underlying,Tryz.underlying30,hb,Result.andThen,fa_dirP,storeVar,Value.cells,storeCells,Addr.add]
 rw[run_store Tryz.prog W ta _ _ (by rfl)]
 simp[ht,hf]
end
end Go.Proofs.YtabogkonklplcaaGreatDoor
