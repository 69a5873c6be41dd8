import Derived.Test.YtabogkonklplcaaGreatDoorQ49
import Derived.Test.YtabogkonklplcaaGreatDoorCards
import Derived.Test.YtabogkonklplcaaGreatDoorTie
import Derived.ProofKit
import Derived.OpenShut
import Derived.Deep.DeepHandedRow
import Derived.Deep.Slices
import Derived.Lib.LaidTab
import Derived.LaidMore
import Derived.LaidHandle
import Derived.Deep.DeepWitnessRowRef
import Derived.Carry
import Derived.PinnedBridge
import Derived.Lib.LaidU8T

namespace Go.Proofs.YtabogkonklplcaaGreatDoor
open Go.ChangeShapes Go.WideShapes Go.ChangeAt Go.RowKit Go.Deep
set_option linter.unusedSimpArgs false
set_option linter.unusedVariables false
theorem Tryz.cells56 : Tryz.prog.cellsOf 56 = 4 := by kernel_rfl
theorem Tryz.cells3k : Tryz.prog.cellsOf 3 = 1 := by kernel_rfl
theorem wf_i64k {n : Int} (h : (Lit.int .i64 n).wf = true) : I64 n := by
  have : -9223372036854775808 ≤ n ∧ n ≤ 9223372036854775807 := by simpa [Lit.wf, IntKind.min, IntKind.max, IntKind.signed, IntKind.bits] using h
  exact this
section
variable {H : Type} {enc : TypeId × Value → H} {w : World} {sp : Nat → Bool} {held : Bool}
set_option maxRecDepth 20000 in
theorem step_open {n : Nat} {cs : List Value} {x : DataW H × List MemPlace} (h : DataW.trod enc Tryz.prog w 0 sp held n 56 cs = some x) : ∃ o : StepR, cs = o.cells ∧ StepOk o := by
  obtain ⟨xs, m, rfl, rfl, hl, hxl, hf⟩ := DataW.trod_struct Tryz.underlying56 h
  rw [Tryz.cells56] at hl
  match cs, hl with
  | [c0, c1, c2, c3], _ =>
    match xs, hxl with
    | [y0, y1, y2, y3], _ =>
      have h0 := hf 0 _ rfl
      have h1 := hf 1 _ rfl
      have h2 := hf 2 _ rfl
      have h3 := hf 3 _ rfl
      simp [Tryz.cells3k] at h0 h1 h2 h3
      obtain ⟨k0, e0, _, w0⟩ := DataW.trod_int Tryz.underlying3 h0
      obtain ⟨k1, e1, _, w1⟩ := DataW.trod_int Tryz.underlying3 h1
      obtain ⟨k2, e2, _, w2⟩ := DataW.trod_int Tryz.underlying3 h2
      obtain ⟨k3, e3, _, w3⟩ := DataW.trod_int Tryz.underlying3 h3
      refine ⟨⟨k0, k1, k2, k3⟩, ?_, wf_i64k w0, wf_i64k w1, wf_i64k w2, wf_i64k w3⟩
      simp at e0 e1 e2 e3
      rw [e0, e1, e2, e3]
      rfl
theorem steps_open {n : Nat} {v : Value} {x : DataW H × List MemPlace} (h : DataW.trod enc Tryz.prog w 0 sp held n 54 [v] = some x) :
    ∃ (a : Option Addr) (g off c : Nat) (l : List StepR), v = .slice a l.length c ∧ ScrAt w a g off l := by
  rcases open_slice Tryz.underlying54 h with ⟨hcs, rfl⟩ | ⟨a, len, cap, m, k, D, Pl, hcs, _, hl, hm, hm2, rfl, hel⟩
  · obtain rfl : v = .slice none 0 0 := by simpa using hcs
    exact ⟨none, 0, 0, 0, [], rfl, ⟨by simp, fun i o ho => by simp at ho, by simp, by simp⟩⟩
  · obtain rfl : v = .slice (some a) len cap := by simpa using hcs
    have hlm : len ≤ m := by rw [hm2]; split <;> omega
    rw [Tryz.cells56] at hel
    have hex : ∀ i, i < len → ∃ o : StepR, w.cells? 0 (a.add (i * 4)) 4 = some o.cells ∧ StepOk o := by
      intro i hi
      obtain ⟨cs', h1, h2⟩ := hel i (by omega)
      obtain ⟨o, rfl, d1⟩ := step_open h2
      exact ⟨o, h1, d1⟩
    obtain ⟨f, hf⟩ := @choose_lt StepR ⟨⟨0, 0, 0, 0⟩⟩ len _ hex
    have hlen2 : ((List.range len).map f).length = len := by simp
    have get : ∀ (i : Nat) (o : StepR), ((List.range len).map f)[i]? = some o → i < len ∧ o = f i := by
      intro i o ho
      have hi : i < len := by have := (List.getElem?_eq_some_iff.1 ho).1; simpa using this
      rw [List.getElem?_map, List.getElem?_range hi] at ho
      exact ⟨hi, by simpa using ho.symm⟩
    have spot : 0 < len → a.spot = none ∧ a.block < w.heap.size := by
      intro h0
      obtain ⟨_, h1, h2⟩ := World.cells?_some (hf 0 h0).1
      have h3 := h2 0 (by simp)
      have h4 : ((f 0).cells)[0]? = some (.int .i64 (f 0).K) := rfl
      rw [h4] at h3
      have e : (a.add (0 * 4)).add 0 = a := by simp [Addr.add]
      rw [e] at h3
      unfold World.cell? at h3
      cases hh : w.heap[a.block]? with
      | none => simp [hh] at h3
      | some ob =>
        refine ⟨?_, (Array.getElem?_eq_some_iff.1 hh).1⟩
        cases ob with
        | cells c t fz =>
          simp only [hh] at h3
          cases hs : a.spot with
          | none => rfl
          | some k => simp [hs] at h3
        | _ => simp [hh] at h3
    have el : ∀ o ∈ (List.range len).map f, StepOk o := by
      intro o ho
      obtain ⟨i, hi, rfl⟩ := List.mem_map.1 ho
      exact (hf i (by simpa using hi)).2
    refine ⟨some a, a.block, a.off, cap, (List.range len).map f, by rw [hlen2], ⟨?_, ?_, el, ?_⟩⟩
    · rw [hlen2]
      intro h0
      have := (spot h0).1
      cases a
      simp_all
    · intro i o ho j u hj
      obtain ⟨hi, rfl⟩ := get i o ho
      obtain ⟨_, h1, h2⟩ := World.cells?_some (hf i hi).1
      have hj10 : j < 4 := (List.getElem?_eq_some_iff.1 hj).1
      have h3 := h2 j hj10
      rw [hj] at h3
      rw [← h3]
      have hsp := (spot (by omega)).1
      congr 1
      cases a with
      | mk b o sp =>
        simp only at hsp
        subst hsp
        simp only [Addr.add]
        split <;> split <;> simp_all <;> omega
    · rw [hlen2]
      exact fun h0 => (spot h0).2
theorem okWide_agg {P : Program} {W : World} {r : Reach} {base : Nat} {t : TypeId} {v : Value} {fs : Array Field} (ht : P.underlying t = some (.struct fs)) (h : Value.okWide P W r base t v) : ∃ cs, v = .agg cs := by
  simp only [Value.okWide, ht] at h
  obtain ⟨cs, h1, _⟩ := h
  exact ⟨cs, h1⟩
theorem agg_of_cells {cs : Array Value} {o : StepR} (h : cs.toList = o.cells) : Value.agg cs = o.val := by
  have : cs = #[.int .i64 o.K, .int .i64 o.A, .int .i64 o.B, .int .i64 o.C] := by
    rw [← Array.toList_inj]
    exact h
  rw [this]
  rfl
set_option maxRecDepth 20000 in
theorem step_arg {W : World} {base : Nat} {v : Value} {d : DataW H} {p : List MemPlace} (hv : Value.okWide Tryz.prog W .any base 56 v) (h : DataW.Trod enc Tryz.prog w 0 sp held 56 v d p) : ∃ o : StepR, v = o.val ∧ StepOk o := by
  obtain ⟨cs, rfl⟩ := okWide_agg Tryz.underlying56 hv
  obtain ⟨fuel, h⟩ := h
  obtain ⟨o, ho, hok⟩ := step_open h
  exact ⟨o, agg_of_cells ho, hok⟩
end
theorem Tryz.ownK : ownKnob Tryz.prog.godebug = none := by kernel_rfl
theorem Tryz.laidOutK : laidOutB Tryz.prog = true := by kernel_rfl
theorem Tryz.etK : Tryz.prog.globalNamed "errors.errorType" = some 0 := by kernel_rfl
theorem Tryz.rtK : (Tryz.prog.cutTypes.find? (·.1 == "internal/reflectlite.rtype")).map (·.2) = some 149 := by kernel_rfl
theorem Tryz.oneRowK : ((List.range Tryz.prog.types.size).filter fun t => Tryz.prog.rowNamed t [101, 114, 114, 111, 114]) = [29] := by kernel_rfl
theorem Tryz.hdlK : typeHandle Tryz.prog 29 = .pointer (some ⟨7, 29, none⟩) := by kernel_rfl
noncomputable def keepWorld (os : Os) : World :=
  let w0 := World.doorLaid Tryz.prog 60 os
  { w0 with heap := w0.heap.modify 1 fun
      | .cells _ t frozen => .cells (Go.Pinned.utf8FirstZ.map fun n : Nat => Value.int .u8 (Int.ofNat n)).toArray t frozen
      | o => o }
set_option maxRecDepth 100000 in
theorem keepWorld_met (os : Os) (args : Array Value) : laidMetH Tryz.prog Rows.orderedRow.laid ((keepWorld os).forCall (fun _ _ => 0) ⟨#[], args, []⟩).memory :=
  laidMetH_of_parts (laidMet_of_run' 8 (by kernel_rfl) (by kernel_rfl)) (by kernel_rfl)
theorem glob_keep {W : World} (h : laidMetH Tryz.prog Rows.orderedRow.laid W) : Glob W := by
  have h' := (laidMetH_iff.1 h).2
  obtain ⟨name, u, ty, e1, e2, e3, e4, e5⟩ := h' ("errors.errorType", Rows.laid_errors_errorType) (List.mem_filter.2 ⟨.tail _ (.tail _ (.tail _ (.tail _ (.head _)))), rfl⟩)
  have en : name = [101, 114, 114, 111, 114] := (Option.some.inj e1).symm
  subst en
  obtain rfl := Option.some.inj (Tryz.rtK.symm.trans e2)
  have hm : ty ∈ (List.range Tryz.prog.types.size).filter fun t => Tryz.prog.rowNamed t [101, 114, 114, 111, 114] := List.mem_filter.2 ⟨List.mem_range.2 e3, e4⟩
  rw [Tryz.oneRowK] at hm
  obtain rfl := List.mem_singleton.1 hm
  rw [Tryz.hdlK] at e5
  unfold Glob
  simpa using World.var?_cell Tryz.etK e5 0
theorem tabs_keep {W : World} (h : laidMetH Tryz.prog Rows.orderedRow.laid W) : Tabs W := by
  have h' := (laidMetH_iff.1 h).1
  have r3 := Lib.laidMet.reads h' (n := "unicode/utf8.first") (d := Rows.laid_unicode_utf8_first) (List.mem_filter.2 ⟨.tail _ (.tail _ (.tail _ (.tail _ (.tail _ (.head _))))), rfl⟩)
  have r4 := Lib.laidMet.reads h' (n := "unicode/utf8.acceptRanges") (d := Rows.laid_unicode_utf8_acceptRanges) (List.mem_filter.2 ⟨.tail _ (.tail _ (.tail _ (.head _))), rfl⟩)
  exact utf8Tabs_of_readsT (U8Types.of260 Tryz.lays260) ⟨by kernel_rfl, by kernel_rfl, by kernel_rfl, by kernel_rfl, by kernel_rfl, by kernel_rfl, by kernel_rfl⟩
    (by rw [show Lib.firstData = Rows.laid_unicode_utf8_first from Pinned.utf8First_eq.symm]; exact r3) (by rw [show Lib.acceptData = Rows.laid_unicode_utf8_acceptRanges from by kernel_rfl]; exact r4)
theorem gg_keep (W : World) (h : laidMetH Tryz.prog Rows.orderedRow.laid W) : GG W := ⟨glob_keep h, tabs_keep h⟩
end Go.Proofs.YtabogkonklplcaaGreatDoor
