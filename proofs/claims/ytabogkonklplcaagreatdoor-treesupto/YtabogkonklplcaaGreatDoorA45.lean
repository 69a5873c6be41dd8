import Derived.Test.YtabogkonklplcaaGreatDoorA43
import Derived.Test.YtabogkonklplcaaGreatDoorA44
import Derived.Deep.QuietTactic
import Derived.BigQuiet

/- marginref's where. -/
namespace Go.Proofs.YtabogkonklplcaaGreatDoor
open Go.RowKit
set_option linter.unusedSimpArgs false
set_option linter.unusedVariables false

/-- Places as they lie in memory. -/
def plV (l : List (Nat × Nat)) : List Value := l.flatMap fun p => [.int .i64 p.1, .int .i64 p.2]
@[simp] theorem plV_length (l : List (Nat × Nat)) : (plV l).length = 2 * l.length := by
  induction l with
  | nil => rfl
  | cons a l ih => simp [plV] at ih ⊢; omega
@[simp] theorem plV_append (l m : List (Nat × Nat)) : plV (l ++ m) = plV l ++ plV m := by simp [plV]
theorem plV_at (l : List (Nat × Nat)) (j : Nat) (p : Nat × Nat) (h : l[j]? = some p) : (plV l)[j * 2]? = some (.int .i64 p.1) ∧ (plV l)[j * 2 + 1]? = some (.int .i64 p.2) := by
  induction l generalizing j with
  | nil => simp at h
  | cons a l ih =>
    cases j with
    | zero => simp at h; subst h; simp [plV]
    | succ j =>
      have := ih j (by simpa using h)
      have e1 : (j + 1) * 2 = j * 2 + 2 := by omega
      have e2 : plV (a :: l) = .int .i64 a.1 :: .int .i64 a.2 :: plV l := by simp [plV]
      rw [e1, e2]
      simpa using this
theorem plV_one (l : List (Nat × Nat)) : ∀ u ∈ plV l, Value.oneCell' u := by
  intro u hu
  simp only [plV, List.mem_flatMap] at hu
  obtain ⟨p, _, h⟩ := hu
  simp at h
  rcases h with rfl | rfl <;> simp [Value.oneCell']

theorem below_drewN {B : Nat} {a w : World} (h : Below B a w) (n : Nat) : Below B a (w.drewN n) := ⟨h.os, h.tape, h.output, h.size, h.block⟩

/-- Where a place is among some. -/
def IsWhere (l : List (Nat × Nat)) (p : Nat × Nat) (q : Int) : Prop := (∃ m : Nat, q = m ∧ l[m]? = some p ∧ p ∉ l.take m) ∨ (q = -1 ∧ p ∉ l)
def WherePost (l : List (Nat × Nat)) (p : Nat × Nat) (w : World) (e : Ending) (w' : World) : Prop := (∃ q : Int, e = .returned (.int .i64 q) ∧ IsWhere l p q) ∧ Below w.heap.size w w'
def WhereInv (l : List (Nat × Nat)) (p : Nat × Nat) (w : World) (a : Value) (wr : World) : Prop := Below w.heap.size w wr ∧ ∃ j : Nat, a = .int .i64 j ∧ j ≤ l.length ∧ p ∉ l.take j

set_option maxRecDepth 20000 in
set_option maxHeartbeats 1000000 in
theorem where_any (l : List (Nat × Nat)) (v : Value) (n k : Nat) (w : World) (hr : w.ownsRow 0 37 2 v l.length (plV l)) (hbig : l.length < lots) :
    Calls Tryz.prog 133 #[v, .agg #[.int .i64 n, .int .i64 k]] w (WherePost l (n, k) w) := by
  obtain ⟨sa, sc, hv⟩ := slice_form' hr
  subst hv
  have HR := hid hr
  have HB := hid hbig
  clear hr hbig
  go_enter Tryz.func133, Tryz.ntmps133
  go_wp2
  go_loopw [5] (fun a wr => WhereInv l (n, k) w a wr ∧ wr.heap[w.heap.size]? = some (.cells #[.int .i64 n, .int .i64 k] 37 (0, 0))) (fun a _ => l.length - (intOf a).toNat)
  case atStart => exact ⟨⟨(Below.refl _ w).alloc (Nat.le_refl _) _, 0, rfl, Nat.zero_le _, by simp⟩, heap_alloc_new w _⟩
  case round =>
    obtain ⟨⟨hb, j, rfl, hj, hno⟩, hq⟩ := hrel
    have hq0 : wr.cell? ⟨w.heap.size, 0, none⟩ = some (.int .i64 n) := cell_of_heap hq 0
    have hq1 : wr.cell? ⟨w.heap.size, 1, none⟩ = some (.int .i64 k) := cell_of_heap hq 1
    have hbig := HB.out
    unfold lots at hbig
    by_cases hlt : j < l.length
    · have hlI : (j : Int) < (l.length : Int) := by omega
      obtain ⟨p, hp⟩ : ∃ p, l[j]? = some p := ⟨_, List.getElem?_eq_getElem hlt⟩
      have hrw := (Keeps.of_below (F := fun _ => False) hb).row HR.out (fun _ _ e => e)
      rcases row_cases hrw with ⟨_, hl0⟩ | ⟨g, cc, hgv⟩
      · omega
      cases hgv
      have cel0 : wr.cell? ⟨g, j * 2, none⟩ = some (.int .i64 (p.1 : Int)) := by
        rw [hrw.cellAt (j * 2) (by omega), (plV_at l j p hp).1]
      have cel1 : wr.cell? ⟨g, j * 2 + 1, none⟩ = some (.int .i64 (p.2 : Int)) := by
        rw [hrw.cellAt (j * 2 + 1) (by omega), (plV_at l j p hp).2]
      have HB1 := hid hb
      have HQ := hid hq
      have HNO := hid hno
      have HP := hid hp
      clear hb hrw hq hno hp
      obtain ⟨p1, p2⟩ := p
      by_cases he : p1 = n ∧ p2 = k
      · obtain ⟨rfl, rfl⟩ := he
        go_wp2
        go_quiet (fail)
        go_wp2
        go_ret
        exact ⟨⟨j, rfl, .inl ⟨j, rfl, HP.out, HNO.out⟩⟩, below_drewN HB1.out _⟩
      · have hno2 : (n, k) ∉ l.take (j + 1) := by
          rw [List.take_add_one, HP.out]
          simp only [Option.toList_some, List.mem_append, List.mem_singleton, Prod.mk.injEq]
          rintro (h1 | ⟨h1, h2⟩)
          · exact HNO.out h1
          · exact he ⟨h1.symm, h2.symm⟩
        have HNO2 := hid hno2
        clear hno2
        by_cases h1 : p1 = n
        · subst h1
          have h2 : ¬ (p2 : Int) = k := fun e => he ⟨rfl, by omega⟩
          have h3 : decide ((p2 : Int) = k) = false := decide_eq_false h2
          go_wp2
          go_quiet (fail)
          go_wp2
          go_roundw
          case rel => exact ⟨⟨below_drewN HB1.out _, j + 1, by go_num, by omega, HNO2.out⟩, HQ.out⟩
          case measure => simp [intOf]; omega
        · have h2 : ¬ (p1 : Int) = n := fun e => h1 (by omega)
          have h3 : decide ((p1 : Int) = n) = false := decide_eq_false h2
          go_wp2
          go_quiet (fail)
          go_wp2
          go_roundw
          case rel => exact ⟨⟨below_drewN HB1.out _, j + 1, by go_num, by omega, HNO2.out⟩, HQ.out⟩
          case measure => simp [intOf]; omega
    · obtain rfl : j = l.length := by omega
      have hjI : ¬ (l.length : Int) < l.length := by omega
      rw [List.take_of_length_le (Nat.le_refl _)] at hno
      go_wp2
      go_ret
      exact ⟨⟨-1, rfl, .inr ⟨rfl, hno⟩⟩, hb⟩

end Go.Proofs.YtabogkonklplcaaGreatDoor
