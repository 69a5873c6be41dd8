import Derived.Test.YtabogkonklplcaaGreatDoorE04
import Derived.Test.YtabogkonklplcaaGreatDoorE09
import Derived.Deep.QuietTactic
import Derived.BigQuiet

/- margin.fault: what a caller sees of an inner error. -/
namespace Go.Proofs.YtabogkonklplcaaGreatDoor
open Go.RowKit Go.Extern.Stop Go.Stop Go.Extern
set_option linter.unusedSimpArgs false
set_option linter.unusedVariables false

/-- (Value).Set of a Refusal: two cells. -/
theorem fa_setR (tb bb : Nat) (n : Int) (y o0 o1 : Value) (W : World) (hy : y.oneCell' = true) (hb0 : W.cell? ⟨bb, 0, none⟩ = some (.int .i64 n)) (hb1 : W.cell? ⟨bb, 1, none⟩ = some y)
    (ht0 : W.cell? ⟨tb, 0, none⟩ = some o0) (ht1 : W.cell? ⟨tb, 1, none⟩ = some o1) (hf0 : W.frozen? ⟨tb, 0, none⟩ = false) (hf1 : W.frozen? ⟨tb, 1, none⟩ = false) :
    (ReflectliteValue.set #[.agg #[.pointer (some ⟨7, 145, none⟩), .pointer (some ⟨tb, 0, none⟩), .int .u64 409], .agg #[.pointer (some ⟨7, 145, none⟩), .pointer (some ⟨bb, 0, none⟩), .int .u64 153]]).run Tryz.prog W
      = .ok (.tuple #[]) ((W.setCell ⟨tb, 0, none⟩ (.int .i64 n)).setCell ⟨tb, 1, none⟩ y) := by
  rw [rls]
  simp only [Sem.run_bind, fa_partsRa, fa_partsRb, Result.andThen]
  simp [ReflectliteValue.flagAddr, loadVar, isAgg, underlying, Tryz.underlying145, hb0, hb1, Result.andThen, fa_dirR, storeVar, Value.cells, storeCells, Addr.add, loadCellsFrom]
  have e1 : (⟨bb, 0, none⟩ : Addr).add 1 = ⟨bb, 1, none⟩ := by rfl
  have hlc : (loadCells ⟨bb, 0, none⟩ 2).run Tryz.prog W = .ok #[.int .i64 n, y] W := by
    simp [loadCells, loadCellsFrom, Addr.add, go_sem, hb0, hb1, Result.andThen]
  rw [hlc]
  simp [storeCells, Addr.add, Sem.run_bind]
  rw [run_store Tryz.prog W ⟨tb, 0, none⟩ _ _ (by rfl)]
  simp [ht0, hf0, Result.andThen]
  have ht1' : (W.setCell ⟨tb, 0, none⟩ (.int .i64 n)).cell? ⟨tb, 1, none⟩ = some o1 := by rw [World.cell?_setCell_other _ _ _ _ (by simp)]; exact ht1
  rw [run_store Tryz.prog _ ⟨tb, 1, none⟩ _ _ hy]
  simp [ht1', hf1]

end Go.Proofs.YtabogkonklplcaaGreatDoor

/- marginlaw's step: the kinds that are played on a pair. -/
namespace Go.Proofs.YtabogkonklplcaaGreatDoor
open Go.RowKit
set_option linter.unusedSimpArgs false
set_option linter.unusedVariables false

section
variable {PD : PDT} {Q : Nat → Prop} {w0 w : World} {yb : Nat} {docs : List DocR}

set_option maxRecDepth 20000 in
set_option maxHeartbeats 4000000 in
theorem step_nodes (hPD : PDOk PD) (h : InvE PD Q w0 w yb docs) (kind D A B C : Int) (S : ByteArray) (p0 p1 q0 q1 : Int) (hk2 : 2 ≤ kind) (hk6 : kind ≤ 6) (hd0 : 0 < docs.length) (hdl : docs.length < lots)
    (hD1 : -9223372036854775808 ≤ D) (hD2 : D ≤ 9223372036854775807)
    (hN : ∀ (W : World) (own : Nat → Nat) (psv : Value) (i : Nat) (d : DocR), docs[i]? = some d → Inv PD Q w0 W yb docs own psv →
      Calls Tryz.prog 42 #[ptr yb, .agg #[ptr d.bx, ptr d.bd], opV kind D A B C S p0 p1 q0 q1] W (PairPost PD (fun b => own b = 2 * i + 2) (fun b => own b = 2 * i + 3) W yb d.bx d.bd psv)) :
    Calls Tryz.prog 15 #[ptr yb, opV kind D A B C S p0 p1 q0 q1] w (StepPost PD Q w0 yb docs.length docs.length) := by
  have hI := h
  obtain ⟨own, psv, h⟩ := h
  rcases row_cases h.row with ⟨_, hz⟩ | ⟨g, c, hv⟩
  · omega
  have hrow := h.row
  rw [hv] at hrow
  obtain ⟨l0, a0, y0, hq⟩ := h.play
  have hl := heap_lt hq
  have c0 : w.cell? ⟨yb, 0, none⟩ = some (.slice (some ⟨g, 0, none⟩) docs.length c) := by rw [← hv]; exact cell_of_heap hq 0
  have hi := pickN_lt D hd0
  obtain ⟨i, hie⟩ : ∃ i, pickN D docs.length = i := ⟨_, rfl⟩
  rw [hie] at hi
  have hd : docs[i]? = some docs[i] := List.getElem?_eq_getElem hi
  generalize docs[i] = d at hd
  have hpg := pairs_get docs i d hd
  have cx : w.cell? ⟨g, i * 2, none⟩ = some (ptr d.bx) := by rw [hrow.cellAt (i * 2) (by omega)]; exact hpg.1
  have cd : w.cell? ⟨g, i * 2 + 1, none⟩ = some (ptr d.bd) := by rw [hrow.cellAt (i * 2 + 1) (by omega)]; exact hpg.2
  have hgl : g < w.heap.size := (hrow.lt g rfl).2
  have hk1' : (kind == 1) = false := by simp; omega
  have hk2' : decide (kind < 2) = false := decide_eq_false (by omega)
  have hk3' : decide (15 < kind) = false := decide_eq_false (by omega)
  have h0' : ((docs.length : Int) == 0) = false := by simp; intro e; rw [e] at hd0; simp at hd0
  have hk6' : decide (kind ≤ 6) = true := decide_eq_true hk6
  have PICK := hid (pick_any D docs.length hd0 hdl hD1 hD2)
  have hil : i < docs.length := hi
  have HIE := hid hie
  have HDL := hid hdl
  have HI := hid hI
  have HPD := hid hPD
  have HN := hid hN
  have HD := hid hd
  clear hq h hI hPD hv hrow hN hd hpg hi hie hdl hD1 hD2
  go_enter Tryz.func15, Tryz.ntmps15
  go_wp2
  go_region_held3 (fun w' => w'.cell? ⟨yb, 0, none⟩ = some (.slice (some ⟨g, 0, none⟩) docs.length c) ∧ w'.cell? ⟨w.heap.size, 1, none⟩ = some (.int .i64 D) ∧ w'.cell? ⟨g, i * 2, none⟩ = some (ptr d.bx) ∧ w'.cell? ⟨g, i * 2 + 1, none⟩ = some (ptr d.bd)) (go_keep) (first
    | (go_at_call 21; refine (PICK.out _).mono ?_; rintro e w' ⟨rfl, rfl⟩; rw [HIE.out]))
  all_goals
    have hb : Below w.heap.size w (((w.alloc (.cells (opCells kind D A B C S p0 p1 q0 q1) 39)).alloc (.cells #[ptr d.bx, ptr d.bd] 44)).drew) := (((Below.refl _ w).alloc (Nat.le_refl _) _).alloc (by simp) _).drew
    obtain ⟨own2, psv2, hI2⟩ := HI.out.below HPD.out hb
    have CN := hid (HN.out (((w.alloc (.cells (opCells kind D A B C S p0 p1 q0 q1) 39)).alloc (.cells #[ptr d.bx, ptr d.bd] 44)).drew) own2 psv2 i d HD.out hI2)
    have HI2 := hid hI2
    clear hb hI2
    go_wp2_with (go_at_call 42; refine CN.out.mono ?_; intro e w3 hp; have he := hp.1; subst he; have HP := hid hp; clear hp)
    go_ret
    exact HI2.out.stepped HPD.out HD.out HP.out
end

end Go.Proofs.YtabogkonklplcaaGreatDoor

/- marginref's where. -/
namespace Go.Proofs.YtabogkonklplcaaGreatDoor
open Go.RowKit
set_option linter.unusedSimpArgs false
set_option linter.unusedVariables false

/-- Places as they lie in memory. -/
def plV (l : List (Nat × Nat)) : List Value := l.flatMap fun p => [.int .i64 p.1, .int .i64 p.2]
@[simp] theorem plV_length (l : List (Nat × Nat)) : (plV l).length = 2 * l.length := by
  induction l with
  | nil => rfl
  | cons a l ih => simp [plV] at ih ⊢; omega
@[simp] theorem plV_append (l m : List (Nat × Nat)) : plV (l ++ m) = plV l ++ plV m := by simp [plV]
theorem plV_at (l : List (Nat × Nat)) (j : Nat) (p : Nat × Nat) (h : l[j]? = some p) : (plV l)[j * 2]? = some (.int .i64 p.1) ∧ (plV l)[j * 2 + 1]? = some (.int .i64 p.2) := by
  induction l generalizing j with
  | nil => simp at h
  | cons a l ih =>
    cases j with
    | zero => simp at h; subst h; simp [plV]
    | succ j =>
      have := ih j (by simpa using h)
      have e1 : (j + 1) * 2 = j * 2 + 2 := by omega
      have e2 : plV (a :: l) = .int .i64 a.1 :: .int .i64 a.2 :: plV l := by simp [plV]
      rw [e1, e2]
      simpa using this
theorem plV_one (l : List (Nat × Nat)) : ∀ u ∈ plV l, Value.oneCell' u := by
  intro u hu
  simp only [plV, List.mem_flatMap] at hu
  obtain ⟨p, _, h⟩ := hu
  simp at h
  rcases h with rfl | rfl <;> simp [Value.oneCell']

theorem below_drewN {B : Nat} {a w : World} (h : Below B a w) (n : Nat) : Below B a (w.drewN n) := ⟨h.os, h.tape, h.output, h.size, h.block⟩

/-- Where a place is among some. -/
def IsWhere (l : List (Nat × Nat)) (p : Nat × Nat) (q : Int) : Prop := (∃ m : Nat, q = m ∧ l[m]? = some p ∧ p ∉ l.take m) ∨ (q = -1 ∧ p ∉ l)
def WherePost (l : List (Nat × Nat)) (p : Nat × Nat) (w : World) (e : Ending) (w' : World) : Prop := (∃ q : Int, e = .returned (.int .i64 q) ∧ IsWhere l p q) ∧ Below w.heap.size w w'
def WhereInv (l : List (Nat × Nat)) (p : Nat × Nat) (w : World) (a : Value) (wr : World) : Prop := Below w.heap.size w wr ∧ ∃ j : Nat, a = .int .i64 j ∧ j ≤ l.length ∧ p ∉ l.take j

set_option maxRecDepth 20000 in
set_option maxHeartbeats 1000000 in
theorem where_any (l : List (Nat × Nat)) (v : Value) (n k : Nat) (w : World) (hr : w.ownsRow 0 37 2 v l.length (plV l)) (hbig : l.length < lots) :
    Calls Tryz.prog 133 #[v, .agg #[.int .i64 n, .int .i64 k]] w (WherePost l (n, k) w) := by
  obtain ⟨sa, sc, hv⟩ := slice_form' hr
  subst hv
  have HR := hid hr
  have HB := hid hbig
  clear hr hbig
  go_enter Tryz.func133, Tryz.ntmps133
  go_wp2
  go_loopw [5] (fun a wr => WhereInv l (n, k) w a wr ∧ wr.heap[w.heap.size]? = some (.cells #[.int .i64 n, .int .i64 k] 37 (0, 0))) (fun a _ => l.length - (intOf a).toNat)
  case atStart => exact ⟨⟨(Below.refl _ w).alloc (Nat.le_refl _) _, 0, rfl, Nat.zero_le _, by simp⟩, heap_alloc_new w _⟩
  case round =>
    obtain ⟨⟨hb, j, rfl, hj, hno⟩, hq⟩ := hrel
    have hq0 : wr.cell? ⟨w.heap.size, 0, none⟩ = some (.int .i64 n) := cell_of_heap hq 0
    have hq1 : wr.cell? ⟨w.heap.size, 1, none⟩ = some (.int .i64 k) := cell_of_heap hq 1
    have hbig := HB.out
    unfold lots at hbig
    by_cases hlt : j < l.length
    · have hlI : (j : Int) < (l.length : Int) := by omega
      obtain ⟨p, hp⟩ : ∃ p, l[j]? = some p := ⟨_, List.getElem?_eq_getElem hlt⟩
      have hrw := (Keeps.of_below (F := fun _ => False) hb).row HR.out (fun _ _ e => e)
      rcases row_cases hrw with ⟨_, hl0⟩ | ⟨g, cc, hgv⟩
      · omega
      cases hgv
      have cel0 : wr.cell? ⟨g, j * 2, none⟩ = some (.int .i64 (p.1 : Int)) := by
        rw [hrw.cellAt (j * 2) (by omega), (plV_at l j p hp).1]
      have cel1 : wr.cell? ⟨g, j * 2 + 1, none⟩ = some (.int .i64 (p.2 : Int)) := by
        rw [hrw.cellAt (j * 2 + 1) (by omega), (plV_at l j p hp).2]
      have HB1 := hid hb
      have HQ := hid hq
      have HNO := hid hno
      have HP := hid hp
      clear hb hrw hq hno hp
      obtain ⟨p1, p2⟩ := p
      by_cases he : p1 = n ∧ p2 = k
      · obtain ⟨rfl, rfl⟩ := he
        go_wp2
        go_quiet (fail)
        go_wp2
        go_ret
        exact ⟨⟨j, rfl, .inl ⟨j, rfl, HP.out, HNO.out⟩⟩, below_drewN HB1.out _⟩
      · have hno2 : (n, k) ∉ l.take (j + 1) := by
          rw [List.take_add_one, HP.out]
          simp only [Option.toList_some, List.mem_append, List.mem_singleton, Prod.mk.injEq]
          rintro (h1 | ⟨h1, h2⟩)
          · exact HNO.out h1
          · exact he ⟨h1.symm, h2.symm⟩
        have HNO2 := hid hno2
        clear hno2
        by_cases h1 : p1 = n
        · subst h1
          have h2 : ¬ (p2 : Int) = k := fun e => he ⟨rfl, by omega⟩
          have h3 : decide ((p2 : Int) = k) = false := decide_eq_false h2
          go_wp2
          go_quiet (fail)
          go_wp2
          go_roundw
          case rel => exact ⟨⟨below_drewN HB1.out _, j + 1, by go_num, by omega, HNO2.out⟩, HQ.out⟩
          case measure => simp [intOf]; omega
        · have h2 : ¬ (p1 : Int) = n := fun e => h1 (by omega)
          have h3 : decide ((p1 : Int) = n) = false := decide_eq_false h2
          go_wp2
          go_quiet (fail)
          go_wp2
          go_roundw
          case rel => exact ⟨⟨below_drewN HB1.out _, j + 1, by go_num, by omega, HNO2.out⟩, HQ.out⟩
          case measure => simp [intOf]; omega
    · obtain rfl : j = l.length := by omega
      have hjI : ¬ (l.length : Int) < l.length := by omega
      rw [List.take_of_length_le (Nat.le_refl _)] at hno
      go_wp2
      go_ret
      exact ⟨⟨-1, rfl, .inr ⟨rfl, hno⟩⟩, hb⟩

end Go.Proofs.YtabogkonklplcaaGreatDoor
