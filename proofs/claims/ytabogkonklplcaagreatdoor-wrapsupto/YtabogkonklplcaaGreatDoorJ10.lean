import Derived.Test.YtabogkonklplcaaGreatDoorJ09
import Derived.Lib.DecodeN
import Derived.Lib.RuneCount
namespace Go.Proofs.YtabogkonklplcaaGreatDoor
set_option linter.unusedSimpArgs false
set_option linter.unusedVariables false
set_option maxRecDepth 20000
set_option maxHeartbeats 8000000
section
open Go.RowKit
def Yn (n b0 b1 b2 b3:Nat):Nat :=
 if b0<128 then 1
 else if 194≤b0∧b0≤223 then (if 2≤n∧128≤b1∧b1≤191 then 2 else 0)
 else if b0=224 then (if 3≤n∧(160≤b1∧b1≤191)∧(128≤b2∧b2≤191) then 3 else 0)
 else if b0=237 then (if 3≤n∧(128≤b1∧b1≤159)∧(128≤b2∧b2≤191) then 3 else 0)
 else if 225≤b0∧b0≤239 then (if 3≤n∧(128≤b1∧b1≤191)∧(128≤b2∧b2≤191) then 3 else 0)
 else if b0=240 then (if 4≤n∧(144≤b1∧b1≤191)∧(128≤b2∧b2≤191)∧(128≤b3∧b3≤191) then 4 else 0)
 else if 241≤b0∧b0≤243 then (if 4≤n∧(128≤b1∧b1≤191)∧(128≤b2∧b2≤191)∧(128≤b3∧b3≤191) then 4 else 0)
 else if b0=244 then (if 4≤n∧(128≤b1∧b1≤143)∧(128≤b2∧b2≤191)∧(128≤b3∧b3≤191) then 4 else 0)
 else 0
theorem div64 {b:Nat}:b / 64=2↔128≤b∧b≤191:=by omega
theorem ZfU (n b0 b1 b2 b3:Nat) (h0:b0 < 256) (h1:b1 < 256) (h2:b2 < 256) (h3:b3 < 256) :
 (Yn n b0 b1 b2 b3=0∧Lib.decodeN n b0 b1 b2 b3=(65533,1))∨(Yn n b0 b1 b2 b3≠0∧(Lib.decodeN n b0 b1 b2 b3).2=Yn n b0 b1 b2 b3∧Lib.decodeN n b0 b1 b2 b3≠(65533,1)):=by
 unfold Yn Lib.decodeN
 simp only[div64]
 by_cases a:b0<128
 · simp[a];omega
 simp only[if_neg a]
 by_cases c2:b0 / 32=6
 · have:¬ b0 / 16=14:=by omega
   have:¬ b0 / 8=30:=by omega
   repeat' split
   all_goals first|(left;exact⟨rfl,rfl⟩)|(right;refine⟨by omega,rfl,?_⟩;simp only[ne_eq,Prod.mk.injEq];omega)|(exfalso;omega)
 by_cases c3:b0 / 16=14
 · have:¬ b0 / 8=30:=by omega
   repeat' split
   all_goals first|(left;exact⟨rfl,rfl⟩)|(right;refine⟨by omega,rfl,?_⟩;simp only[ne_eq,Prod.mk.injEq];omega)|(exfalso;omega)
 by_cases c4:b0 / 8=30
 · repeat' split
   all_goals first|(left;exact⟨rfl,rfl⟩)|(right;refine⟨by omega,rfl,?_⟩;simp only[ne_eq,Prod.mk.injEq];omega)|(exfalso;omega)
 · repeat' split
   all_goals first|(left;exact⟨rfl,rfl⟩)|(exfalso;omega)
end
end Go.Proofs.YtabogkonklplcaaGreatDoor
