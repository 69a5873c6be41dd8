import Derived.Test.YtabogkonklplcaaGreatDoorL39
import Derived.Test.YtabogkonklplcaaGreatDoorL40
import Derived.Test.YtabogkonklplcaaGreatDoorL41
import Derived.Test.YtabogkonklplcaaGreatDoorL42
import Derived.Test.YtabogkonklplcaaGreatDoorL43
import Derived.Test.YtabogkonklplcaaGreatDoorL44
import Derived.Test.YtabogkonklplcaaGreatDoorL45
import Derived.Test.YtabogkonklplcaaGreatDoorL46
import Derived.Test.YtabogkonklplcaaGreatDoorL47
import Derived.Test.YtabogkonklplcaaGreatDoorL48
import Derived.Test.YtabogkonklplcaaGreatDoorL49

namespace Go.Proofs.YtabogkonklplcaaGreatDoor
open Go.RowKit
set_option linter.unusedSimpArgs false
set_option linter.unusedVariables false
section
variable {s : List Nd} {rs : List Sp}
theorem does_at {w0 w : World} {F : Nat → Prop} {bw bx : Nat} {M : Int} (hg : GG w0) (wf : WF s) (h6 : rs.length ≤ 6) (hrs : ∀ z ∈ rs, SpIs s z) (hD : Desk w0 F w bw bx (s.length : Int) M ⟨s, rs⟩) (K A B C : Int) (hK : I64 K) (hA : I64 A) (hB : I64 B) (hC : I64 C) (keep : Bool) :
    Calls Tryz.prog 24 #[ptr bw, .agg #[.int .i64 K, .int .i64 A, .int .i64 B, .int .i64 C], .bool keep] w (DoesPost w0 bw bx M s rs keep) := by
  have h9 : pickM K 9 < 9 := pickM_lt K (by decide)
  obtain ⟨q, hq⟩ : ∃ q, pickM K 9 = q := ⟨_, rfl⟩
  rw [hq] at h9
  match q, h9, hq with
  | 0, _, hq => exact does_k0 hg wf h6 hrs hD K A B C hK hA hB hC keep hq
  | 1, _, hq => exact does_k1 hg wf h6 hrs hD K A B C hK hA hB hC keep hq
  | 2, _, hq => exact does_k2 hg wf h6 hrs hD K A B C hK hA hB hC keep hq
  | 3, _, hq => exact does_k3 hg wf h6 hrs hD K A B C hK hA hB hC keep hq
  | 4, _, hq => exact does_k4 hg wf h6 hrs hD K A B C hK hA hB hC keep hq
  | 5, _, hq => exact does_k5 hg wf h6 hrs hD K A B C hK hA hB hC keep hq
  | 6, _, hq => exact does_k6 hg wf h6 hrs hD K A B C hK hA hB hC keep hq
  | 7, _, hq => exact does_k7 hg wf h6 hrs hD K A B C hK hA hB hC keep hq
  | 8, _, hq => exact does_k8 hg wf h6 hrs hD K A B C hK hA hB hC keep hq
  | _ + 9, h, _ => exact absurd h (by omega)
end
end Go.Proofs.YtabogkonklplcaaGreatDoor

namespace Go.Proofs.YtabogkonklplcaaGreatDoor
open Go.RowKit
set_option linter.unusedSimpArgs false
set_option linter.unusedVariables false
structure StepR where
  K : Int
  A : Int
  B : Int
  C : Int
def StepR.cells (o : StepR) : List Value := [.int .i64 o.K, .int .i64 o.A, .int .i64 o.B, .int .i64 o.C]
def StepR.val (o : StepR) : Value := .agg #[.int .i64 o.K, .int .i64 o.A, .int .i64 o.B, .int .i64 o.C]
structure StepOk (o : StepR) : Prop where
  hK : I64 o.K
  hA : I64 o.A
  hB : I64 o.B
  hC : I64 o.C
def StepsAt (w : World) (g off : Nat) (l : List StepR) : Prop := ∀ (i : Nat) (o : StepR), l[i]? = some o → ∀ (j : Nat) (u : Value), o.cells[j]? = some u → w.cell? ⟨g, off + i * 4 + j, none⟩ = some u
structure ScrAt (w : World) (a : Option Addr) (g off : Nat) (l : List StepR) : Prop where
  ha : 0 < l.length → a = some ⟨g, off, none⟩
  at_ : StepsAt w g off l
  ok : ∀ o ∈ l, StepOk o
  lt : 0 < l.length → g < w.heap.size
theorem ScrAt.below {w W : World} {a : Option Addr} {g off : Nat} {l : List StepR} (h : ScrAt w a g off l) (hb : Below w.heap.size w W) : ScrAt W a g off l :=
  ⟨h.ha, fun i o ho j u hu => by
    have h0 : 0 < l.length := by have := (List.getElem?_eq_some_iff.1 ho).1; omega
    exact (hb.cell (p := ⟨g, off + i * 4 + j, none⟩) (h.lt h0)).trans (h.at_ i o ho j u hu), h.ok, fun h0 => Nat.lt_of_lt_of_le (h.lt h0) hb.size⟩
theorem ScrAt.step {w : World} {a : Option Addr} {g off : Nat} {l : List StepR} (h : ScrAt w a g off l) {i : Nat} {o : StepR} (ho : l[i]? = some o) :
    a = some ⟨g, off, none⟩ ∧ w.cell? ⟨g, off + i * 4, none⟩ = some (.int .i64 o.K) ∧ w.cell? ⟨g, off + i * 4 + 1, none⟩ = some (.int .i64 o.A) ∧ w.cell? ⟨g, off + i * 4 + 2, none⟩ = some (.int .i64 o.B) ∧ w.cell? ⟨g, off + i * 4 + 3, none⟩ = some (.int .i64 o.C) ∧ StepOk o := by
  have h0 : 0 < l.length := by have := (List.getElem?_eq_some_iff.1 ho).1; omega
  refine ⟨h.ha h0, ?_, h.at_ i o ho 1 _ rfl, h.at_ i o ho 2 _ rfl, h.at_ i o ho 3 _ rfl, h.ok o (List.mem_of_getElem? ho)⟩
  have := h.at_ i o ho 0 _ rfl
  simpa using this
structure Mid (w0 w : World) (bw bx : Nat) (s : List Nd) (rs : List Sp) : Prop where
  wf : WF s
  len : rs.length = 2
  sp : ∀ z ∈ rs, SpIs s z
  desk : ∃ F, Desk w0 F w bw bx (s.length : Int) 2 ⟨s, rs⟩
theorem mid_laid {w0 w : World} {bw bx : Nat} {F : Nat → Prop} (h : Desk w0 F w bw bx 4 2 ⟨ndS, rsS⟩) : Mid w0 w bw bx ndS rsS := ⟨wfS, rfl, spS, F, h⟩
theorem Mid.does {w0 w : World} {bw bx : Nat} {s : List Nd} {rs : List Sp} (hg : GG w0) (h : Mid w0 w bw bx s rs) (o : StepR) (ho : StepOk o) (keep : Bool) :
    Calls Tryz.prog 24 #[ptr bw, .agg #[.int .i64 o.K, .int .i64 o.A, .int .i64 o.B, .int .i64 o.C], .bool keep] w fun e w' => e = .returned (.tuple #[]) ∧ ∃ s' fs, Dids keep s s' fs ∧ Mid w0 w' bw bx s' (rs.map (mvSp (compF fs))) := by
  obtain ⟨wf, hl, sp, F, hD⟩ := h
  refine (does_at hg wf (by omega) sp hD o.K o.A o.B o.C ho.hK ho.hA ho.hB ho.hC keep).mono ?_
  rintro e w' ⟨rfl, F', s', fs, hd, hD'⟩
  exact ⟨rfl, s', fs, hd, hd.wf wf, by simpa using hl, hd.all spIs_lives sp, F', hD'⟩
end Go.Proofs.YtabogkonklplcaaGreatDoor
