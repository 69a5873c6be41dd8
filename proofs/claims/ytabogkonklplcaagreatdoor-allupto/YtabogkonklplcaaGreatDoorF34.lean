import Derived.Test.YtabogkonklplcaaGreatDoorF21
import Derived.Test.YtabogkonklplcaaGreatDoorF08
import Derived.Test.YtabogkonklplcaaGreatDoorF14
import Derived.Test.YtabogkonklplcaaGreatDoorF10

/- errors.Is, as ranges.set asks it of what Compare answers. -/
namespace Go.Proofs.YtabogkonklplcaaGreatDoor
open Go.RowKit Go.Extern.Stop Go.Stop Go.Extern
set_option linter.unusedSimpArgs false
set_option linter.unusedVariables false

theorem fa_noIsR (v : Value) (w : World) : (Instr.typeAssert (.iface 145 v) 29 151 true).run Tryz.prog w = .ok (.tuple #[.nilIface, .bool false]) w := run_typeAssert_lacksB Tryz.underlying151 (by kernel_rfl) (by kernel_rfl) v _ w
theorem fa_noIsP (v : Value) (w : World) : (Instr.typeAssert (.iface 30 v) 29 151 true).run Tryz.prog w = .ok (.tuple #[.nilIface, .bool false]) w := run_typeAssert_lacksB Tryz.underlying151 (by kernel_rfl) (by kernel_rfl) v _ w
theorem eq_refP (u : Value) (y : Int) (w : World) : (binOp .eql 29 (.iface 145 u) (.iface 30 (.int .i64 y))).run Tryz.prog w = .ok (.bool false) w := by kernel_rfl

set_option maxRecDepth 20000 in
set_option maxHeartbeats 4000000 in
theorem is_refYes (n y z : Int) (he : ∀ w, (binOp .eql 29 (.iface 30 (.int .i64 y)) (.iface 30 (.int .i64 z))).run Tryz.prog w = .ok (.bool true) w) (w : World) : Calls Tryz.prog 22 #[refusalV n y, .iface 30 (.int .i64 z)] w fun e w' => e = .returned (.bool true) ∧ Below w.heap.size w w' := by
  have h10 := fx_h10
  have tO := fa_typeOfP
  have tC := fa_cmpP
  have ni := fa_noIsR
  have nu := fa_unwR
  have e1 := eq_refP
  go_enter Tryz.func22, Tryz.ntmps22
  go_wp2
  refine wp_loop_rounds 2 ?_
  rw [rounds_succ]
  go_wp2
  rw [rounds_succ]
  go_wp2
  go_ret
  exact ⟨rfl, by go_grown⟩

set_option maxRecDepth 20000 in
set_option maxHeartbeats 4000000 in
theorem is_refNo (n y z : Int) (he : ∀ w, (binOp .eql 29 (.iface 30 (.int .i64 y)) (.iface 30 (.int .i64 z))).run Tryz.prog w = .ok (.bool false) w) (w : World) : Calls Tryz.prog 22 #[refusalV n y, .iface 30 (.int .i64 z)] w fun e w' => e = .returned (.bool false) ∧ Below w.heap.size w w' := by
  have h10 := fx_h10
  have tO := fa_typeOfP
  have tC := fa_cmpP
  have ni := fa_noIsR
  have nu := fa_unwR
  have e1 := eq_refP
  have niP := fa_noIsP
  have nuP := fa_noUnwP
  have nusP := fa_noUnwsP
  go_enter Tryz.func22, Tryz.ntmps22
  go_wp2
  refine wp_loop_rounds 2 ?_
  rw [rounds_succ]
  go_wp2
  rw [rounds_succ]
  go_wp2
  go_ret
  exact ⟨rfl, by go_grown⟩

set_option maxRecDepth 20000 in
set_option maxHeartbeats 4000000 in
theorem is_refOut (n k : Int) (w : World) : Calls Tryz.prog 22 #[.iface 145 (.agg #[.int .i64 n, outV k]), .iface 30 (.int .i64 9)] w fun e w' => e = .returned (.bool false) ∧ Below w.heap.size w w' := by
  have h10 := fx_h10
  have tO := fa_typeOfP
  have tC := fa_cmpP
  have ni := fa_noIsR
  have nu := fa_unwR
  have e1 := eq_refP
  have e2 := eq_outP
  have niO := fa_noIsO
  have nuO := fa_unwO'
  have niP := fa_noIsP
  have nuP := fa_noUnwP
  have nusP := fa_noUnwsP
  have he : ∀ w, (binOp .eql 29 (.iface 30 (.int .i64 3)) (.iface 30 (.int .i64 9))).run Tryz.prog w = .ok (.bool false) w := fun w => by kernel_rfl
  go_enter Tryz.func22, Tryz.ntmps22
  go_wp2
  refine wp_loop_rounds 3 ?_
  rw [rounds_succ]
  go_wp2
  rw [rounds_succ]
  go_wp2
  rw [rounds_succ]
  go_wp2
  go_ret
  exact ⟨rfl, by go_grown⟩

end Go.Proofs.YtabogkonklplcaaGreatDoor

/- errors.Is, as Wraps asks it of what a call answered. -/
namespace Go.Proofs.YtabogkonklplcaaGreatDoor
open Go.RowKit Go.Extern.Stop Go.Stop Go.Extern
set_option linter.unusedSimpArgs false
set_option linter.unusedVariables false

theorem fa_noIsFt (v : Value) (w : World) : (Instr.typeAssert (.iface 32 v) 29 151 true).run Tryz.prog w = .ok (.tuple #[.nilIface, .bool false]) w := run_typeAssert_lacksB Tryz.underlying151 (by kernel_rfl) (by kernel_rfl) v _ w
theorem fa_unwFt (v : Value) (w : World) : (Instr.typeAssert (.iface 32 v) 29 154 true).run Tryz.prog w = .ok (.tuple #[.iface 32 v, .bool true]) w := by kernel_rfl
theorem eq_fltP (u : Value) (y : Int) (w : World) : (binOp .eql 29 (.iface 32 u) (.iface 30 (.int .i64 y))).run Tryz.prog w = .ok (.bool false) w := by kernel_rfl
theorem eq_PPd (y z : Int) (w : World) : (binOp .eql 29 (.iface 30 (.int .i64 y)) (.iface 30 (.int .i64 z))).run Tryz.prog w = .ok (.bool (y == z)) w := by kernel_rfl

set_option maxRecDepth 20000 in
set_option maxHeartbeats 4000000 in
theorem is_fltYes (a y z : Int) (he : (y == z) = true) (w : World) : Calls Tryz.prog 22 #[.iface 32 (.agg #[.int .i64 a, .int .i64 y]), .iface 30 (.int .i64 z)] w fun e w' => e = .returned (.bool true) ∧ Below w.heap.size w w' := by
  have h10 := fx_h10
  have tO := fa_typeOfP
  have tC := fa_cmpP
  have ni := fa_noIsFt
  have nu := fa_unwFt
  have e1 := eq_fltP
  have e2 := eq_PPd y z
  rw [he] at e2
  clear he
  go_enter Tryz.func22, Tryz.ntmps22
  go_wp2
  refine wp_loop_rounds 2 ?_
  rw [rounds_succ]
  go_wp2
  rw [rounds_succ]
  go_wp2
  go_ret
  exact ⟨rfl, by go_grown⟩

set_option maxRecDepth 20000 in
set_option maxHeartbeats 4000000 in
theorem is_fltNo (a y z : Int) (he : (y == z) = false) (w : World) : Calls Tryz.prog 22 #[.iface 32 (.agg #[.int .i64 a, .int .i64 y]), .iface 30 (.int .i64 z)] w fun e w' => e = .returned (.bool false) ∧ Below w.heap.size w w' := by
  have h10 := fx_h10
  have tO := fa_typeOfP
  have tC := fa_cmpP
  have ni := fa_noIsFt
  have nu := fa_unwFt
  have e1 := eq_fltP
  have e2 := eq_PPd y z
  rw [he] at e2
  have niP := fa_noIsP
  have nuP := fa_noUnwP
  have nusP := fa_noUnwsP
  clear he
  go_enter Tryz.func22, Tryz.ntmps22
  go_wp2
  refine wp_loop_rounds 2 ?_
  rw [rounds_succ]
  go_wp2
  rw [rounds_succ]
  go_wp2
  go_ret
  exact ⟨rfl, by go_grown⟩

/-- What is asked of an answer. -/
theorem is_errV (a y z : Int) (hz : z ≠ 0) (w : World) : Calls Tryz.prog 22 #[errV a y, .iface 30 (.int .i64 z)] w fun e w' => e = .returned (.bool (y == z)) ∧ Below w.heap.size w w' := by
  by_cases h : y = 0
  · subst h
    have e0 : errV a 0 = .nilIface := if_pos rfl
    have e1 : ((0 : Int) == z) = false := by simpa using fun e => hz e.symm
    rw [e0, e1]
    refine (is_nil z w).mono ?_
    rintro e w' ⟨rfl, rfl⟩
    exact ⟨rfl, Below.refl _ _⟩
  · have e0 : errV a y = .iface 32 (.agg #[.int .i64 a, .int .i64 y]) := if_neg h
    rw [e0]
    cases he : (y == z) with
    | true => exact is_fltYes a y z he w
    | false => exact is_fltNo a y z he w

end Go.Proofs.YtabogkonklplcaaGreatDoor

/- Wraps: a script is played, and each answer asked for each problem. -/
namespace Go.Proofs.YtabogkonklplcaaGreatDoor
open Go.RowKit
set_option linter.unusedSimpArgs false
set_option linter.unusedVariables false

/-- Steps of any kind. -/
theorem steps_any {PD : PDT} {G : World → Prop} (hA : Answers4 PD G) {Q : Nat → Prop} {w0 : World} {yb : Nat} (hG : ∀ W, Keeps Q w0 W → G W) : Steps PD Q w0 yb (fun _ => True) := by
  intro o ho _ W docs hI hdl
  by_cases h : 1 ≤ o.kind ∧ o.kind ≤ 15
  · exact steps_of4 hA hG o ho h W docs hI hdl
  · refine (step_none hA.pd hI o.kind o.D o.A o.B o.C o.S o.p0 o.p1 o.q0 o.q1 (by omega) (.inr (by omega))).mono ?_
    rintro e w' ⟨he, docs', h, hm, hl⟩
    exact ⟨he, docs', h, hm, by omega⟩

theorem InvE.asked {PD : PDT} {Q : Nat → Prop} {w0 w : World} {yb : Nat} {docs : List DocR} (h : InvE PD Q w0 w yb docs) : ∃ (psv : Value) (a y : Int), w.heap[yb]? = some (.cells #[psv, errV a y, .int .i64 a, .int .i64 y] 34 (0, 0)) := by
  obtain ⟨own, psv, h⟩ := h
  obtain ⟨l0, a0, y0, rfl, hq⟩ := h.play
  exact ⟨psv, a0, y0, hq⟩

set_option maxRecDepth 20000 in
set_option maxHeartbeats 8000000 in
theorem wraps_any {PD : PDT} {w : World} (a : Option Addr) (g off c : Nat) (script : List OpR) (ha : 0 < script.length → a = some ⟨g, off, none⟩) (hs : ScriptAt w g off script) (hok : ∀ o ∈ script, OpOk o) (hlen : script.length + 6 < lots) (hgl : 0 < script.length → g < w.heap.size)
    (hst : ∀ (Q : Nat → Prop) (w0 : World) (yb : Nat), Below w.heap.size w w0 → (∀ b, Q b → w.heap.size ≤ b) → Steps PD Q w0 yb (fun _ => True))
    (hPD : PDOk PD) :
    Calls Tryz.prog 7 #[.slice a script.length c] w fun e w' => e = .returned (.bool true) ∧ Below w.heap.size w w' := by
  obtain ⟨W0, hW0⟩ : ∃ W, W = (w.alloc (.cells #[.slice none 0 0, .nilIface, .int .i64 0, .int .i64 0] 34)).alloc (.cells (headOps.flatMap OpR.cells).toArray 39) := ⟨_, rfl⟩
  have hz0 : W0.heap.size = w.heap.size + 1 + 1 := by rw [hW0]; simp
  have hbW : Below w.heap.size w W0 := by rw [hW0]; exact ((Below.refl _ w).alloc (Nat.le_refl _) _).alloc (by simp) _
  have hqy : W0.heap[w.heap.size]? = some (.cells #[.slice none 0 0, .nilIface, .int .i64 0, .int .i64 0] 34 (0, 0)) := by rw [hW0, Below.heap_alloc _ _ _ (by simp), heap_alloc_new]
  have hqh : W0.heap[w.heap.size + 1]? = some (.cells (headOps.flatMap OpR.cells).toArray 39 (0, 0)) := by
    have := heap_alloc_new (w.alloc (.cells #[.slice none 0 0, .nilIface, .int .i64 0, .int .i64 0] 34)) (.cells (headOps.flatMap OpR.cells).toArray 39)
    rw [hW0]
    simpa using this
  have inv0 : InvE PD (fun b => b = w.heap.size ∨ w.heap.size + 1 + 1 ≤ b) W0 W0 w.heap.size [] := by
    refine ⟨fun b => if b = w.heap.size then 1 else 0, .slice none 0 0, ⟨_, 0, 0, rfl, hqy⟩, World.ownsRow_nil _ _ _ _, by simp, fun b e => (by cases e), fun b e => ?_, fun b e => .inr (by omega), Keeps.refl _ _, fun i d h => (by simp at h)⟩
    have : b = w.heap.size := by
      rcases Classical.em (b = w.heap.size) with e1 | e1
      · exact e1
      · simp [e1] at e
    exact ⟨.inl this, by omega⟩
  have HEADAT : Hid (∀ W, Keeps (fun b => b = w.heap.size ∨ w.heap.size + 1 + 1 ≤ b) W0 W → ScriptAt W (w.heap.size + 1) 0 headOps) := by
    intro W hk i o ho j u hu
    have hj : j < 10 := by have := (List.getElem?_eq_some_iff.1 hu).1; simpa using this
    refine hk.cell (p := ⟨w.heap.size + 1, 0 + i * 10 + j, none⟩) ?_ (by simp only; omega)
    rw [cell_of_heap hqh]
    have := opcells_get headOps i o ho j hj
    rw [hu] at this
    simpa using this
  have SCRAT : Hid (∀ W, Keeps (fun b => b = w.heap.size ∨ w.heap.size + 1 + 1 ≤ b) W0 W → ScriptAt W g off script) := by
    intro W hk i o ho j u hu
    have hgl := hgl (by have := (List.getElem?_eq_some_iff.1 ho).1; omega)
    refine hk.cell (p := ⟨g, off + i * 10 + j, none⟩) ?_ (by simp only; omega)
    exact (hbW.cell (p := ⟨g, off + i * 10 + j, none⟩) hgl).trans (hs i o ho j u hu)
  have HST := hid (hst (fun b => b = w.heap.size ∨ w.heap.size + 1 + 1 ≤ b) W0 w.heap.size hbW (fun b e => by omega))
  have HPD := hid hPD
  have HOK := hid hok
  have INV0 := hid inv0
  have HBW := hid hbW
  have HAA := hid ha
  unfold lots at hlen
  clear ha hgl hst hPD hok inv0 hbW hqy hqh hs
  go_enter Tryz.func7, Tryz.ntmps7
  go_wp2_with (go_at_call 17; refine (head_any _).mono ?_; rintro e w' ⟨rfl, rfl⟩)
  rw [← hW0]
  clear hW0
  go_loopw [5] (fun t wr => ∃ (j : Nat) (docs : List DocR), j ≤ 5 + script.length ∧ t = .int .i64 j ∧ InvE PD (fun b => b = w.heap.size ∨ w.heap.size + 1 + 1 ≤ b) W0 wr w.heap.size docs ∧ docs.length ≤ j) (fun t _ => leftV (5 + script.length) t)
  case atStart => exact ⟨0, [], by omega, rfl, INV0.out, by simp⟩
  case round =>
    obtain ⟨j, docs, hj, rfl, hinv, hdl⟩ := hrel
    by_cases hlt : j < 5
    · obtain ⟨o, ho⟩ : ∃ o, headOps[j]? = some o := ⟨_, List.getElem?_eq_getElem (show j < headOps.length from hlt)⟩
      have hoo := headOps_ok o (List.mem_of_getElem? ho)
      have hat := (by obtain ⟨own, psv, hI⟩ := hinv; exact HEADAT.out wr hI.fr j o ho : ∀ (q : Nat) (u : Value), o.cells[q]? = some u → wr.cell? ⟨w.heap.size + 1, 0 + j * 10 + q, none⟩ = some u)
      have e0 : wr.cell? ⟨w.heap.size + 1, j * 10, none⟩ = some (.int .i64 o.kind) := by simpa using hat 0 _ rfl
      have e1 : wr.cell? ⟨w.heap.size + 1, j * 10 + 1, none⟩ = some (.int .i64 o.D) := by simpa using hat 1 _ rfl
      have e2 : wr.cell? ⟨w.heap.size + 1, j * 10 + 2, none⟩ = some (.int .i64 o.A) := by simpa using hat 2 _ rfl
      have e3 : wr.cell? ⟨w.heap.size + 1, j * 10 + 3, none⟩ = some (.int .i64 o.B) := by simpa using hat 3 _ rfl
      have e4 : wr.cell? ⟨w.heap.size + 1, j * 10 + 4, none⟩ = some (.int .i64 o.C) := by simpa using hat 4 _ rfl
      have e5 : wr.cell? ⟨w.heap.size + 1, j * 10 + 5, none⟩ = some (.string o.S) := by simpa using hat 5 _ rfl
      have e6 : wr.cell? ⟨w.heap.size + 1, j * 10 + 6, none⟩ = some (.int .i64 o.p0) := by simpa using hat 6 _ rfl
      have e7 : wr.cell? ⟨w.heap.size + 1, j * 10 + 7, none⟩ = some (.int .i64 o.p1) := by simpa using hat 7 _ rfl
      have e8 : wr.cell? ⟨w.heap.size + 1, j * 10 + 8, none⟩ = some (.int .i64 o.q0) := by simpa using hat 8 _ rfl
      have e9 : wr.cell? ⟨w.heap.size + 1, j * 10 + 9, none⟩ = some (.int .i64 o.q1) := by simpa using hat 9 _ rfl
      have hyl : w.heap.size + 1 < wr.heap.size := by obtain ⟨own, psv, hI⟩ := hinv; have := hI.fr.size; omega
      have CS := hid (HST.out o hoo.1 trivial (wr.alloc (.cells o.cells.toArray 39)) docs (hinv.below HPD.out ((Below.refl _ wr).alloc (Nat.le_refl _) _)) (by unfold lots; omega))
      have hk1 : o.kind = 1 ↔ j = 0 := by
        simp only [headOps] at ho
        rcases j with _ | _ | _ | _ | _ | j
        all_goals first | omega | (simp at ho; subst ho; decide)
      have HINV := hid hinv
      clear hat ho hoo hinv
      by_cases h0 : j = 0
      · have hk := hk1.2 h0
        have hkb : (o.kind == 1) = true := by rw [hk]; rfl
        clear hk1 hk
        subst h0
        go_wp2_with (go_at_call 15; refine CS.out.mono ?_; clear CS; rintro e w3 ⟨rfl, docs', hI', hm', hl'⟩; have HI' := hid hI'; clear hI')
        obtain ⟨psv, av, yv, hq⟩ := HI'.out.asked
        have HQ := hid hq
        clear hq
        go_loopw [8] (fun t wr2 => ∃ p : Nat, 1 ≤ p ∧ p ≤ 10 ∧ t = .int .i64 (p : Int) ∧ Below w3.heap.size w3 wr2) (fun t _ => leftV 10 t)
        case atStart => exact ⟨1, by omega, by omega, rfl, Below.refl _ _⟩
        case round =>
          obtain ⟨p, hp1, hp2, rfl, hb2⟩ := hrel
          by_cases hpl : p < 10
          · have hpI : (p : Int) ≤ 9 := by omega
            have hq2 := (hb2.block _ (heap_lt HQ.out)).trans HQ.out
            have q1 := cell_of_heap hq2 1
            have q3 := cell_of_heap hq2 3
            have CE := hid (is_errV av yv (p : Int) (by omega) wr)
            have HQ2 := hid hq2
            have HB2 := hid hb2
            obtain ⟨eb, heb⟩ : ∃ eb, (yv == (p : Int)) = eb := ⟨_, rfl⟩
            rw [heb] at CE
            clear hq2 hb2
            go_wp2_with (
              go_at_call 22
              refine CE.out.mono ?_
              clear CE
              rintro e w5 ⟨rfl, hb5⟩
              have hq5 := (hb5.block _ (heap_lt HQ2.out)).trans HQ2.out
              have r3 := cell_of_heap hq5 3
              have HB5 := hid (HB2.out.trans (hb5.mono HB2.out.size))
              clear hb5 hq5)
            refine ⟨⟨p + 1, by omega, by omega, by go_num, HB5.out⟩, ?_⟩
            show 10 - ((p : Int) + 1).toNat < 10 - ((p : Int)).toNat
            omega
          · have hpI : ¬ (p : Int) ≤ 9 := by omega
            have HB2 := hid hb2
            clear hb2
            go_wp2
            refine ⟨⟨0 + 1, docs', by omega, by go_num, HI'.out.below HPD.out HB2.out, by omega⟩, ?_⟩
            show (5 + script.length) - (((0 : Nat) : Int) + 1).toNat < (5 + script.length) - (((0 : Nat) : Int)).toNat
            omega
      · have hkb : (o.kind == 1) = false := by simpa using fun e => h0 (hk1.1 e)
        clear hk1
        go_wp2_with (go_at_call 15; refine CS.out.mono ?_; clear CS; rintro e w3 ⟨rfl, docs', hI', hm', hl'⟩; have HI' := hid hI'; clear hI')
        obtain ⟨psv, av, yv, hq⟩ := HI'.out.asked
        have HQ := hid hq
        clear hq
        go_loopw [8] (fun t wr2 => ∃ p : Nat, 1 ≤ p ∧ p ≤ 10 ∧ t = .int .i64 (p : Int) ∧ Below w3.heap.size w3 wr2) (fun t _ => leftV 10 t)
        case atStart => exact ⟨1, by omega, by omega, rfl, Below.refl _ _⟩
        case round =>
          obtain ⟨p, hp1, hp2, rfl, hb2⟩ := hrel
          by_cases hpl : p < 10
          · have hpI : (p : Int) ≤ 9 := by omega
            have hq2 := (hb2.block _ (heap_lt HQ.out)).trans HQ.out
            have q1 := cell_of_heap hq2 1
            have q3 := cell_of_heap hq2 3
            have CE := hid (is_errV av yv (p : Int) (by omega) wr)
            have HQ2 := hid hq2
            have HB2 := hid hb2
            obtain ⟨eb, heb⟩ : ∃ eb, (yv == (p : Int)) = eb := ⟨_, rfl⟩
            rw [heb] at CE
            clear hq2 hb2
            go_wp2_with (
              go_at_call 22
              refine CE.out.mono ?_
              clear CE
              rintro e w5 ⟨rfl, hb5⟩
              have hq5 := (hb5.block _ (heap_lt HQ2.out)).trans HQ2.out
              have r3 := cell_of_heap hq5 3
              have HB5 := hid (HB2.out.trans (hb5.mono HB2.out.size))
              clear hb5 hq5)
            refine ⟨⟨p + 1, by omega, by omega, by go_num, HB5.out⟩, ?_⟩
            show 10 - ((p : Int) + 1).toNat < 10 - ((p : Int)).toNat
            omega
          · have hpI : ¬ (p : Int) ≤ 9 := by omega
            have HB2 := hid hb2
            clear hb2
            go_wp2
            refine ⟨⟨j + 1, docs', by omega, by go_num, HI'.out.below HPD.out HB2.out, by omega⟩, ?_⟩
            show (5 + script.length) - ((j : Int) + 1).toNat < (5 + script.length) - ((j : Int)).toNat
            omega
    · by_cases hlt2 : j < 5 + script.length
      · obtain ⟨i, hie⟩ : ∃ i, j = 5 + i := ⟨j - 5, by omega⟩
        subst hie
        have haa := HAA.out (by omega)
        subst haa
        obtain ⟨o, ho⟩ : ∃ o, script[i]? = some o := ⟨_, List.getElem?_eq_getElem (by omega)⟩
        have hoo := HOK.out o (List.mem_of_getElem? ho)
        have hfr := (by obtain ⟨own, psv, hI⟩ := hinv; exact hI.fr : Keeps (fun b => b = w.heap.size ∨ w.heap.size + 1 + 1 ≤ b) W0 wr)
        have hat := SCRAT.out wr hfr i o ho
        have e0 : wr.cell? ⟨g, off + i * 10, none⟩ = some (.int .i64 o.kind) := by simpa using hat 0 _ rfl
        have e1 : wr.cell? ⟨g, off + i * 10 + 1, none⟩ = some (.int .i64 o.D) := by simpa using hat 1 _ rfl
        have e2 : wr.cell? ⟨g, off + i * 10 + 2, none⟩ = some (.int .i64 o.A) := by simpa using hat 2 _ rfl
        have e3 : wr.cell? ⟨g, off + i * 10 + 3, none⟩ = some (.int .i64 o.B) := by simpa using hat 3 _ rfl
        have e4 : wr.cell? ⟨g, off + i * 10 + 4, none⟩ = some (.int .i64 o.C) := by simpa using hat 4 _ rfl
        have e5 : wr.cell? ⟨g, off + i * 10 + 5, none⟩ = some (.string o.S) := by simpa using hat 5 _ rfl
        have e6 : wr.cell? ⟨g, off + i * 10 + 6, none⟩ = some (.int .i64 o.p0) := by simpa using hat 6 _ rfl
        have e7 : wr.cell? ⟨g, off + i * 10 + 7, none⟩ = some (.int .i64 o.p1) := by simpa using hat 7 _ rfl
        have e8 : wr.cell? ⟨g, off + i * 10 + 8, none⟩ = some (.int .i64 o.q0) := by simpa using hat 8 _ rfl
        have e9 : wr.cell? ⟨g, off + i * 10 + 9, none⟩ = some (.int .i64 o.q1) := by simpa using hat 9 _ rfl
        have hgl2 : g < wr.heap.size := World.block_lt_of_cell? wr _ e0
        have hsub : ((5 + i : Nat) : Int) - 5 = (i : Int) := by omega
        have CS := hid (HST.out o hoo trivial (wr.alloc (.cells o.cells.toArray 39)) docs (hinv.below HPD.out ((Below.refl _ wr).alloc (Nat.le_refl _) _)) (by unfold lots; omega))
        have HINV := hid hinv
        have h5a : ¬ ((5 + i : Nat) : Int) < 5 := by omega
        have h5b : ((5 + i : Nat) : Int) < 5 + (script.length : Int) := by omega
        have hil : (i : Int) < (script.length : Int) := by omega
        clear hat ho hoo hinv hfr
        by_cases hk : o.kind = 1
        · have hkb : (o.kind == 1) = true := by rw [hk]; rfl
          clear hk CS
          go_wp2
          refine ⟨⟨5 + i + 1, docs, by omega, by go_num, HINV.out.below HPD.out ((Below.refl _ wr).alloc (Nat.le_refl _) _), by omega⟩, ?_⟩
          show (5 + script.length) - (5 + (i : Int) + 1).toNat < (5 + script.length) - (5 + (i : Int)).toNat
          omega
        · have hkb : (o.kind == 1) = false := by simpa using hk
          clear hk
          go_wp2_with (go_at_call 15; refine CS.out.mono ?_; clear CS; rintro e w3 ⟨rfl, docs', hI', hm', hl'⟩; have HI' := hid hI'; clear hI')
          obtain ⟨psv, av, yv, hq⟩ := HI'.out.asked
          have HQ := hid hq
          clear hq
          go_loopw [8] (fun t wr2 => ∃ p : Nat, 1 ≤ p ∧ p ≤ 10 ∧ t = .int .i64 (p : Int) ∧ Below w3.heap.size w3 wr2) (fun t _ => leftV 10 t)
          case atStart => exact ⟨1, by omega, by omega, rfl, Below.refl _ _⟩
          case round =>
            obtain ⟨p, hp1, hp2, rfl, hb2⟩ := hrel
            by_cases hpl : p < 10
            · have hpI : (p : Int) ≤ 9 := by omega
              have hq2 := (hb2.block _ (heap_lt HQ.out)).trans HQ.out
              have q1 := cell_of_heap hq2 1
              have q3 := cell_of_heap hq2 3
              have CE := hid (is_errV av yv (p : Int) (by omega) wr)
              have HQ2 := hid hq2
              have HB2 := hid hb2
              obtain ⟨eb, heb⟩ : ∃ eb, (yv == (p : Int)) = eb := ⟨_, rfl⟩
              rw [heb] at CE
              clear hq2 hb2
              go_wp2_with (
                go_at_call 22
                refine CE.out.mono ?_
                clear CE
                rintro e w5 ⟨rfl, hb5⟩
                have hq5 := (hb5.block _ (heap_lt HQ2.out)).trans HQ2.out
                have r3 := cell_of_heap hq5 3
                have HB5 := hid (HB2.out.trans (hb5.mono HB2.out.size))
                clear hb5 hq5)
              refine ⟨⟨p + 1, by omega, by omega, by go_num, HB5.out⟩, ?_⟩
              show 10 - ((p : Int) + 1).toNat < 10 - ((p : Int)).toNat
              omega
            · have hpI : ¬ (p : Int) ≤ 9 := by omega
              have HB2 := hid hb2
              clear hb2
              go_wp2
              refine ⟨⟨5 + i + 1, docs', by omega, by go_num, HI'.out.below HPD.out HB2.out, by omega⟩, ?_⟩
              show (5 + script.length) - (((5 + i : Nat) : Int) + 1).toNat < (5 + script.length) - (((5 + i : Nat) : Int)).toNat
              omega
      · have hle : ¬ ((j : Nat) : Int) < 5 + (script.length : Int) := by omega
        have HINV := hid hinv
        clear hinv
        go_wp2
        go_ret
        refine ⟨rfl, ?_⟩
        obtain ⟨own, psv, hI⟩ := HINV.out
        have hk := hI.fr
        have hz := HBW.out.size
        exact HBW.out.trans ⟨hk.os, hk.tape, hk.output, hk.size, fun k hk2 => hk.block k (by omega) (by omega)⟩

end Go.Proofs.YtabogkonklplcaaGreatDoor
