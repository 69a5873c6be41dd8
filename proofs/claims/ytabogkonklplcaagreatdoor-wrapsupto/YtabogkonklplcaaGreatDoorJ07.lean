import Derived.Test.YtabogkonklplcaaGreatDoorJ04
import Derived.Test.YtabogkonklplcaaGreatDoorJ06
namespace Go.Proofs.YtabogkonklplcaaGreatDoor
set_option linter.unusedSimpArgs false
set_option linter.unusedVariables false
set_option maxRecDepth 20000
set_option maxHeartbeats 8000000
section
open Go.RowKit Go.Extern.Stop Go.Stop Go.Extern
theorem fa_setR (tb bb:Nat) (n:Int) (y o0 o1:Value) (W:World) (hy:y.oneCell'=true) (hb0:W.cell? ⟨bb,0,none⟩=some (.int .i64 n)) (hb1:W.cell? ⟨bb,1,none⟩=some y)
 (ht0:W.cell? ⟨tb,0,none⟩=some o0) (ht1:W.cell? ⟨tb,1,none⟩=some o1) (hf0:W.frozen? ⟨tb,0,none⟩=false) (hf1:W.frozen? ⟨tb,1,none⟩=false) :
 (ReflectliteValue.set #[.agg #[.pointer (some ⟨7,145,none⟩),.pointer (some ⟨tb,0,none⟩),.int .u64 409],.agg #[.pointer (some ⟨7,145,none⟩),.pointer (some ⟨bb,0,none⟩),.int .u64 153]]).run Tryz.prog W
   = .ok (.tuple #[]) ((W.setCell ⟨tb,0,none⟩ (.int .i64 n)).setCell ⟨tb,1,none⟩ y):=by
 rw[rls]
 simp only[Sem.run_bind,ZfG,ZfH,Result.andThen]
 simp[ReflectliteValue.flagAddr,loadVar,isAgg,underlying,Tryz.underlying145,hb0,hb1,Result.andThen,fa_dirR,storeVar,Value.cells,storeCells,Addr.add,loadCellsFrom]
 have e1:(⟨bb,0,none⟩:Addr).add 1=⟨bb,1,none⟩:=by rfl
 have hlc:(loadCells ⟨bb,0,none⟩ 2).run Tryz.prog W=.ok #[.int .i64 n,y] W:=by
  simp[loadCells,loadCellsFrom,Addr.add,go_sem,hb0,hb1,Result.andThen]
 rw[hlc]
 simp[storeCells,Addr.add,Sem.run_bind]
 rw[run_store Tryz.prog W ⟨tb,0,none⟩ _ _ (by rfl)]
 simp[ht0,hf0,Result.andThen]
 have ht1':(W.setCell ⟨tb,0,none⟩ (.int .i64 n)).cell? ⟨tb,1,none⟩=some o1:=by rw[World.cell?_setCell_other _ _ _ _ (by simp)];exact ht1
 rw[run_store Tryz.prog _ ⟨tb,1,none⟩ _ _ hy]
 simp[ht1',hf1]
end
section
open Go.RowKit
def errV (a y:Int):Value:=if y=0 then .nilIface else .iface 32 (.agg #[.int .i64 a,.int .i64 y])
theorem Zfz (v:Value) (w:World):(Instr.typeAssert (.iface 32 v) 29 32 true).run Tryz.prog w=.ok (.tuple #[v,.bool true]) w:=by kernel_rfl
theorem ZaW {w:World} {b:Nat} {o0 o1 o2 o3 v1 v2 v3:Value} {t:TypeId} (h:w.heap[b]?=some (.cells #[o0,o1,o2,o3] t (0,0))) :
 (((w.setCell ⟨b,1,none⟩ v1).setCell ⟨b,2,none⟩ v2).setCell ⟨b,3,none⟩ v3).heap[b]?=some (.cells #[o0,v1,v2,v3] t (0,0)):=by
 have h1:=heap_setCell_same w b 1 _ _ v1 h
 have h2:=heap_setCell_same _ b 2 _ _ v2 h1
 rw[heap_setCell_same _ b 3 _ _ _ h2];simp
theorem las_nil (yb:Nat) (psv l0:Value) (a0 y0 a:Int) (w:World) (hq:w.heap[yb]?=some (.cells #[psv,l0,.int .i64 a0,.int .i64 y0] 34 (0,0))) :
 Calls Tryz.prog 20 #[.pointer (some ⟨yb,0,none⟩),.nilIface,.agg #[.int .i64 a,.int .i64 0]] w fun e w'=>e=.returned (.bool true) ∧
  Zb (fun b=>b=yb) w w'∧w'.heap[yb]?=some (.cells #[psv,.nilIface,.int .i64 a,.int .i64 0] 34 (0,0)):=by
 have hl:=Zc hq
 have c1:w.cell? ⟨yb,1,none⟩=some l0:=Za hq 1
 have c2:w.cell? ⟨yb,2,none⟩=some (.int .i64 a0):=Za hq 2
 have c3:w.cell? ⟨yb,3,none⟩=some (.int .i64 y0):=Za hq 3
 have f1:=Zd hq 1
 have f2:=Zd hq 2
 have f3:=Zd hq 3
 have hne:¬ yb=w.heap.size:=by omega
 have HQ:=hid hq
 clear hq
 go_enter Tryz.func20,Tryz.ntmps20
 go_wp2
 go_ret
 refine⟨rfl,?_,?_⟩
 · repeat (refine Zb.alloc ?_ _)
   exact(((Zb.refl (fun b=>b=yb) w).setCell (p:=⟨yb,1,none⟩) (.inl rfl) _).setCell (p:=⟨yb,2,none⟩) (.inl rfl) _).setCell (p:=⟨yb,3,none⟩) (.inl rfl) _
 · first
  | (rw[Below.heap_alloc _ _ _ (by simp only[World.size_setCell];omega)];exact ZaW HQ.out)
  | (refine ZaW ?_;rw[Below.heap_alloc _ _ _ hl];exact HQ.out)
theorem Zgh (yb:Nat) (psv l0:Value) (a0 y0 a y:Int) (hy:y≠0) (w:World) (hq:w.heap[yb]?=some (.cells #[psv,l0,.int .i64 a0,.int .i64 y0] 34 (0,0))) :
 Calls Tryz.prog 20 #[.pointer (some ⟨yb,0,none⟩),.iface 32 (.agg #[.int .i64 a,.int .i64 y]),.agg #[.int .i64 a,.int .i64 y]] w fun e w'=>e=.returned (.bool true) ∧
  Zb (fun b=>b=yb) w w'∧w'.heap[yb]?=some (.cells #[psv,.iface 32 (.agg #[.int .i64 a,.int .i64 y]),.int .i64 a,.int .i64 y] 34 (0,0)):=by
 have hl:=Zc hq
 have c1:w.cell? ⟨yb,1,none⟩=some l0:=Za hq 1
 have c2:w.cell? ⟨yb,2,none⟩=some (.int .i64 a0):=Za hq 2
 have c3:w.cell? ⟨yb,3,none⟩=some (.int .i64 y0):=Za hq 3
 have f1:=Zd hq 1
 have f2:=Zd hq 2
 have f3:=Zd hq 3
 have hne:¬ yb=w.heap.size:=by omega
 have hy0:(y != 0)=true:=by simpa using hy
 have hy1:(y == 0)=false:=by simpa using hy
 have ta:=Zfz
 have HQ:=hid hq
 clear hq hy
 go_enter Tryz.func20,Tryz.ntmps20
 go_wp2
 go_ret
 refine⟨by simp,?_,?_⟩
 · repeat (refine Zb.alloc ?_ _)
   exact(((Zb.refl (fun b=>b=yb) w).setCell (p:=⟨yb,1,none⟩) (.inl rfl) _).setCell (p:=⟨yb,2,none⟩) (.inl rfl) _).setCell (p:=⟨yb,3,none⟩) (.inl rfl) _
 · first
  | (rw[Below.heap_alloc _ _ _ (by simp only[World.size_alloc,World.size_setCell];omega),Below.heap_alloc _ _ _ (by simp only[World.size_setCell];omega)];exact ZaW HQ.out)
  | (rw[Below.heap_alloc _ _ _ (by simp only[World.size_alloc,World.size_setCell];omega)];refine ZaW ?_;rw[Below.heap_alloc _ _ _ hl];exact HQ.out)
theorem Yx (yb:Nat) (psv l0:Value) (a0 y0 a y:Int) (w:World) (hq:w.heap[yb]?=some (.cells #[psv,l0,.int .i64 a0,.int .i64 y0] 34 (0,0))) :
 Calls Tryz.prog 20 #[.pointer (some ⟨yb,0,none⟩),errV a y,.agg #[.int .i64 a,.int .i64 y]] w fun e w'=>e=.returned (.bool true) ∧
  Zb (fun b=>b=yb) w w'∧w'.heap[yb]?=some (.cells #[psv,errV a y,.int .i64 a,.int .i64 y] 34 (0,0)):=by
 by_cases h:y=0
 · subst h;exact las_nil yb psv l0 a0 y0 a w hq
 · have e:errV a y=.iface 32 (.agg #[.int .i64 a,.int .i64 y]):=if_neg h
   rw[e]
   exact Zgh yb psv l0 a0 y0 a y h w hq
def Xy (c:Int) (n:Nat):Nat:=((if c < 0 then -(c+1) else c) % (n:Int)).toNat
theorem ZbW (c:Int) {n:Nat} (h:0 < n):Xy c n < n:=by
 unfold Xy
 have h1:=Int.emod_nonneg (if c<0 then -(c+1) else c) (show (n:Int)≠0 by omega)
 have h2:=Int.emod_lt_of_pos (if c<0 then -(c+1) else c) (show (0:Int)<n by omega)
 omega
theorem ZbX (c:Int) (n:Nat) (hn:0 < n) (hb:n < lots) (h1:-9223372036854775808≤c) (h2:c≤9223372036854775807) (w:World) :
 Calls Tryz.prog 21 #[.int .i64 c,.int .i64 n] w fun e w'=>e=.returned (.int .i64 (Xy c n))∧w'=w:=by
 unfold lots at hb
 by_cases hc:c<0
 · have hz:¬ (n:Int)=0:=by omega
   go_enter Tryz.func21,Tryz.ntmps21
   go_wp2
   go_ret
   refine⟨Zb1 ?_,rfl⟩
   unfold Xy
   rw[if_pos hc,← Int.neg_tmod,Int.tmod_eq_emod_of_nonneg (by omega)]
   have h3:=Int.emod_nonneg (-(c+1)) (show (n:Int)≠0 by omega)
   omega
 · have hz:¬ (n:Int)=0:=by omega
   have hc':0≤c:=by omega
   go_enter Tryz.func21,Tryz.ntmps21
   go_wp2
   go_ret
   refine⟨Zb1 ?_,rfl⟩
   unfold Xy
   rw[if_neg (show ¬ c<0 by omega)]
   try rw[Int.tmod_eq_emod_of_nonneg hc']
   have h3:=Int.emod_nonneg c (show (n:Int)≠0 by omega)
   omega
end
end Go.Proofs.YtabogkonklplcaaGreatDoor
