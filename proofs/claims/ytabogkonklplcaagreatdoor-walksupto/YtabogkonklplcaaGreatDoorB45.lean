import Derived.Test.YtabogkonklplcaaGreatDoorB44

/- The functions that move places, called: gather, resize, carry. -/
namespace Go.Proofs.YtabogkonklplcaaGreatDoor
open Go.RowKit Go.Lib
set_option linter.unusedSimpArgs false
set_option linter.unusedVariables false

/-- What a shift leans on. -/
structure ShiftAt (W : World) (n o d : Int) (x y z : Nat) : Prop where
  h0 : W.cell? ⟨x, 0, none⟩ = some (.int .i64 n)
  h1 : W.cell? ⟨y, 0, none⟩ = some (.int .i64 o)
  h2 : W.cell? ⟨z, 0, none⟩ = some (.int .i64 d)
  d0 : -100 ≤ d
  d1 : d ≤ 100

theorem ShiftAt.runs {W W1 : World} {n o d : Int} {x y z : Nat} (h : ShiftAt W n o d x y z) (hb : Below W.heap.size W W1) {a b : Int} (hb0 : 0 ≤ b) (hb1 : b ≤ 100) :
    Calls Tryz.prog 158 #[.agg #[.int .i64 a, .int .i64 b], ptr x, ptr y, ptr z] W1 fun e w' => e = .returned (.agg #[.int .i64 (shiftF n o d a b).1, .int .i64 (shiftF n o d a b).2]) ∧ Below W1.heap.size W1 w' :=
  shift1 n o d a b x y z W1 ((hb.cell (World.block_lt_of_cell? W _ h.h0)).trans h.h0) ((hb.cell (World.block_lt_of_cell? W _ h.h1)).trans h.h1) ((hb.cell (World.block_lt_of_cell? W _ h.h2)).trans h.h2) hb0 hb1 h.d0 h.d1

abbrev shiftV (x y z : Nat) : Value := .func (.func 158) #[] #[ptr x, ptr y, ptr z]

set_option maxRecDepth 20000 in
set_option maxHeartbeats 1000000 in
theorem resize1 (n o t g a b : Int) (B0 B1 B2 B3 x y z : Nat) (W : World) (k0 : W.cell? ⟨B0, 0, none⟩ = some (.int .i64 n)) (k1 : W.cell? ⟨B1, 0, none⟩ = some (.int .i64 o)) (k2 : W.cell? ⟨B2, 0, none⟩ = some (.int .i64 t)) (k3 : W.cell? ⟨B3, 0, none⟩ = some (shiftV x y z)) (hS : ShiftAt W n (o + t) (g - t) x y z) (ho0 : 0 ≤ o) (ho : o ≤ 100) (ht0 : 0 ≤ t) (ht : t ≤ 100) (hb0 : 0 ≤ b) (hb : b ≤ 100) :
    Calls Tryz.prog 154 #[.agg #[.int .i64 a, .int .i64 b], ptr B0, ptr B1, ptr B2, ptr B3] W fun e w' => e = .returned (.agg #[.int .i64 (resizeF n o t g a b).1, .int .i64 (resizeF n o t g a b).2]) ∧ Below W.heap.size W w' := by
  have l0 := World.block_lt_of_cell? W _ k0
  have l1 := World.block_lt_of_cell? W _ k1
  have l2 := World.block_lt_of_cell? W _ k2
  have l3 := World.block_lt_of_cell? W _ k3
  have HS := hid (fun W1 (hB : Below W.heap.size W W1) => hS.runs hB (a := a) (b := b) hb0 hb)
  have q : IntKind.i64.wrap (o + t) = o + t := by rw [IntKind.wrap_i64]; omega
  clear hS
  by_cases hc : a = n ∧ o < b ∧ b ≤ o + t
  · obtain ⟨rfl, h2, h3⟩ := hc
    have e1 : resizeF a o t g a b = (a, o) := by simp [resizeF, h2, h3]
    rw [e1]
    have d2 : decide (o < b) = true := decide_eq_true h2
    have d3 : decide (b ≤ o + t) = true := decide_eq_true h3
    go_enter Tryz.func154, Tryz.ntmps154
    go_wp2
    refine bodyPost_ret (v := .agg #[.int .i64 a, .int .i64 o]) (by simp [results, Tryz.results154, go_sem]) rfl ?_
    exact ⟨rfl, by go_grown⟩
  · have e1 : resizeF n o t g a b = shiftF n (o + t) (g - t) a b := by unfold resizeF; rw [if_neg hc]
    rw [e1]
    obtain ⟨r0, r1, hr⟩ : ∃ r0 r1, shiftF n (o + t) (g - t) a b = (r0, r1) := ⟨_, _, rfl⟩
    rw [hr] at HS ⊢
    clear hr e1
    by_cases h1 : a = n
    · subst h1
      by_cases h2 : o < b
      · have h3 : ¬ b ≤ o + t := fun h => hc ⟨rfl, h2, h⟩
        have d2 : decide (o < b) = true := decide_eq_true h2
        have d3 : decide (b ≤ o + t) = false := decide_eq_false h3
        go_enter Tryz.func154, Tryz.ntmps154
        go_wp2_with (go_at_call 158; refine (HS.out _ (ptwo_below W a b 0 0)).mono ?_; rintro e w1 ⟨rfl, hb1⟩
                     obtain ⟨q1, q2⟩ := ptwo_cells hb1
                     have z0 : w1.cell? ⟨W.heap.size + 1, 0, none⟩ = some (.int .i64 0) := cell_of_heap q2 0
                     have z1 : w1.cell? ⟨W.heap.size + 1, 1, none⟩ = some (.int .i64 0) := cell_of_heap q2 1
                     have f0 := frozen_of_heap q2 0
                     have f1 := frozen_of_heap q2 1
                     have hl := heap_lt q2
                     have HB := hid ((ptwo_below W a b 0 0).trans (hb1.mono (ptwo_below W a b 0 0).size))
                     clear q1 q2 hb1)
        refine bodyPost_ret (v := .agg #[.int .i64 r0, .int .i64 r1]) (by simp [results, Tryz.results154, go_sem, z0, z1, f0, f1, hl]) rfl ?_
        exact ⟨rfl, (HB.out.setCell (p := ⟨W.heap.size + 1, 0, none⟩) (Nat.le_succ _) _).setCell (p := ⟨W.heap.size + 1, 1, none⟩) (Nat.le_succ _) _⟩
      · have d2 : decide (o < b) = false := decide_eq_false h2
        go_enter Tryz.func154, Tryz.ntmps154
        go_wp2_with (go_at_call 158; refine (HS.out _ (ptwo_below W a b 0 0)).mono ?_; rintro e w1 ⟨rfl, hb1⟩
                     obtain ⟨q1, q2⟩ := ptwo_cells hb1
                     have z0 : w1.cell? ⟨W.heap.size + 1, 0, none⟩ = some (.int .i64 0) := cell_of_heap q2 0
                     have z1 : w1.cell? ⟨W.heap.size + 1, 1, none⟩ = some (.int .i64 0) := cell_of_heap q2 1
                     have f0 := frozen_of_heap q2 0
                     have f1 := frozen_of_heap q2 1
                     have hl := heap_lt q2
                     have HB := hid ((ptwo_below W a b 0 0).trans (hb1.mono (ptwo_below W a b 0 0).size))
                     clear q1 q2 hb1)
        refine bodyPost_ret (v := .agg #[.int .i64 r0, .int .i64 r1]) (by simp [results, Tryz.results154, go_sem, z0, z1, f0, f1, hl]) rfl ?_
        exact ⟨rfl, (HB.out.setCell (p := ⟨W.heap.size + 1, 0, none⟩) (Nat.le_succ _) _).setCell (p := ⟨W.heap.size + 1, 1, none⟩) (Nat.le_succ _) _⟩
    · have d1 : (a == n) = false := by simpa using h1
      go_enter Tryz.func154, Tryz.ntmps154
      go_wp2_with (go_at_call 158; refine (HS.out _ (ptwo_below W a b 0 0)).mono ?_; rintro e w1 ⟨rfl, hb1⟩
                   obtain ⟨q1, q2⟩ := ptwo_cells hb1
                   have z0 : w1.cell? ⟨W.heap.size + 1, 0, none⟩ = some (.int .i64 0) := cell_of_heap q2 0
                   have z1 : w1.cell? ⟨W.heap.size + 1, 1, none⟩ = some (.int .i64 0) := cell_of_heap q2 1
                   have f0 := frozen_of_heap q2 0
                   have f1 := frozen_of_heap q2 1
                   have hl := heap_lt q2
                   have HB := hid ((ptwo_below W a b 0 0).trans (hb1.mono (ptwo_below W a b 0 0).size))
                   clear q1 q2 hb1)
      refine bodyPost_ret (v := .agg #[.int .i64 r0, .int .i64 r1]) (by simp [results, Tryz.results154, go_sem, z0, z1, f0, f1, hl]) rfl ?_
      exact ⟨rfl, (HB.out.setCell (p := ⟨W.heap.size + 1, 0, none⟩) (Nat.le_succ _) _).setCell (p := ⟨W.heap.size + 1, 1, none⟩) (Nat.le_succ _) _⟩

set_option maxRecDepth 20000 in
set_option maxHeartbeats 1000000 in
theorem carry1 (n o fr m i d a b : Int) (B0 B1 B2 B3 x y z : Nat) (W : World) (k0 : W.cell? ⟨B0, 0, none⟩ = some (.int .i64 n)) (k1 : W.cell? ⟨B1, 0, none⟩ = some (.int .i64 o)) (k2 : W.cell? ⟨B2, 0, none⟩ = some (.int .i64 fr)) (k3 : W.cell? ⟨B3, 0, none⟩ = some (shiftV x y z)) (hS : ShiftAt W m i d x y z) (ho0 : 0 ≤ o) (ho : o ≤ 100) (hb0 : 0 ≤ b) (hb : b ≤ 100) :
    Calls Tryz.prog 157 #[.agg #[.int .i64 a, .int .i64 b], ptr B0, ptr B1, ptr B2, ptr B3] W fun e w' => e = .returned (.agg #[.int .i64 (carryF n o fr (shiftF m i d) a b).1, .int .i64 (carryF n o fr (shiftF m i d) a b).2]) ∧ Below W.heap.size W w' := by
  have l0 := World.block_lt_of_cell? W _ k0
  have l1 := World.block_lt_of_cell? W _ k1
  have l2 := World.block_lt_of_cell? W _ k2
  have l3 := World.block_lt_of_cell? W _ k3
  have HS := hid (fun W1 (hB : Below W.heap.size W W1) => hS.runs hB (a := a) (b := b) hb0 hb)
  clear hS
  by_cases hc : a = n ∧ o < b
  · obtain ⟨rfl, h2⟩ := hc
    have e1 : carryF a o fr (shiftF m i d) a b = (fr, b - o) := by simp [carryF, h2]
    rw [e1]
    have d2 : decide (o < b) = true := decide_eq_true h2
    go_enter Tryz.func157, Tryz.ntmps157
    go_wp2
    refine bodyPost_ret (v := .agg #[.int .i64 fr, .int .i64 (b - o)]) (by simp [results, Tryz.results157, go_sem]) rfl ?_
    exact ⟨rfl, by go_grown⟩
  · have e1 : carryF n o fr (shiftF m i d) a b = shiftF m i d a b := by unfold carryF; rw [if_neg hc]
    rw [e1]
    obtain ⟨r0, r1, hr⟩ : ∃ r0 r1, shiftF m i d a b = (r0, r1) := ⟨_, _, rfl⟩
    rw [hr] at HS ⊢
    clear hr e1
    by_cases h1 : a = n
    · subst h1
      have d2 : decide (o < b) = false := decide_eq_false (fun h => hc ⟨rfl, h⟩)
      go_enter Tryz.func157, Tryz.ntmps157
      go_wp2_with (go_at_call 158; refine (HS.out _ (ptwo_below W a b 0 0)).mono ?_; rintro e w1 ⟨rfl, hb1⟩
                   obtain ⟨q1, q2⟩ := ptwo_cells hb1
                   have z0 : w1.cell? ⟨W.heap.size + 1, 0, none⟩ = some (.int .i64 0) := cell_of_heap q2 0
                   have z1 : w1.cell? ⟨W.heap.size + 1, 1, none⟩ = some (.int .i64 0) := cell_of_heap q2 1
                   have f0 := frozen_of_heap q2 0
                   have f1 := frozen_of_heap q2 1
                   have hl := heap_lt q2
                   have HB := hid ((ptwo_below W a b 0 0).trans (hb1.mono (ptwo_below W a b 0 0).size))
                   clear q1 q2 hb1)
      refine bodyPost_ret (v := .agg #[.int .i64 r0, .int .i64 r1]) (by simp [results, Tryz.results157, go_sem, z0, z1, f0, f1, hl]) rfl ?_
      exact ⟨rfl, (HB.out.setCell (p := ⟨W.heap.size + 1, 0, none⟩) (Nat.le_succ _) _).setCell (p := ⟨W.heap.size + 1, 1, none⟩) (Nat.le_succ _) _⟩
    · have d1 : (a == n) = false := by simpa using h1
      go_enter Tryz.func157, Tryz.ntmps157
      go_wp2_with (go_at_call 158; refine (HS.out _ (ptwo_below W a b 0 0)).mono ?_; rintro e w1 ⟨rfl, hb1⟩
                   obtain ⟨q1, q2⟩ := ptwo_cells hb1
                   have z0 : w1.cell? ⟨W.heap.size + 1, 0, none⟩ = some (.int .i64 0) := cell_of_heap q2 0
                   have z1 : w1.cell? ⟨W.heap.size + 1, 1, none⟩ = some (.int .i64 0) := cell_of_heap q2 1
                   have f0 := frozen_of_heap q2 0
                   have f1 := frozen_of_heap q2 1
                   have hl := heap_lt q2
                   have HB := hid ((ptwo_below W a b 0 0).trans (hb1.mono (ptwo_below W a b 0 0).size))
                   clear q1 q2 hb1)
      refine bodyPost_ret (v := .agg #[.int .i64 r0, .int .i64 r1]) (by simp [results, Tryz.results157, go_sem, z0, z1, f0, f1, hl]) rfl ?_
      exact ⟨rfl, (HB.out.setCell (p := ⟨W.heap.size + 1, 0, none⟩) (Nat.le_succ _) _).setCell (p := ⟨W.heap.size + 1, 1, none⟩) (Nat.le_succ _) _⟩

end Go.Proofs.YtabogkonklplcaaGreatDoor

/- The functions that move places, called: gather. -/
namespace Go.Proofs.YtabogkonklplcaaGreatDoor
open Go.RowKit Go.Lib
set_option linter.unusedSimpArgs false
set_option linter.unusedVariables false

set_option maxRecDepth 20000 in
set_option maxHeartbeats 1000000 in
theorem gather1 (l : List Nat) (p q m i d a b : Int) (B0 B1 B2 x y z : Nat) (v : Value) (W : World) (hrow : W.ownsRow 0 3 1 v l.length (intsV l)) (hne : l ≠ []) (hl : l.length < lots) (k0 : W.cell? ⟨B0, 0, none⟩ = some v) (k1 : W.cell? ⟨B1, 0, none⟩ = some (.int .i64 p)) (k1' : W.cell? ⟨B1, 1, none⟩ = some (.int .i64 q)) (k2 : W.cell? ⟨B2, 0, none⟩ = some (shiftV x y z)) (hS : ShiftAt W m i d x y z) (hb0 : 0 ≤ b) (hb : b ≤ 100) :
    Calls Tryz.prog 178 #[.agg #[.int .i64 a, .int .i64 b], ptr B0, ptr B1, ptr B2] W fun e w' => e = .returned (.agg #[.int .i64 (gatherF l p q (shiftF m i d) a b).1, .int .i64 (gatherF l p q (shiftF m i d) a b).2]) ∧ Below W.heap.size W w' := by
  have l0 := World.block_lt_of_cell? W _ k0
  have l1 := World.block_lt_of_cell? W _ k1
  have l2 := World.block_lt_of_cell? W _ k2
  obtain ⟨g, cp, cur, hv, hh, hn, hc, hcs, ht, hcell, hfr⟩ := row_ints hrow hne
  subst hv
  have CC := hid (fun W1 (hB : Below W.heap.size W W1) => Tryz.slices_Contains_int g 0 l.length cp (l.map Int.ofNat) a W1 (by simp) (by unfold lots at hl; omega) (fun j hj => (hB.cell (p := ⟨g, 0 + j, none⟩) (heap_lt hh)).trans (hcell j hj)))
  rw [List.take_of_length_le (by simp)] at CC
  have HS := hid (fun W1 (hB : Below W.heap.size W W1) => hS.runs hB (a := a) (b := b) hb0 hb)
  clear hS hrow hh hcell hfr ht
  cases hin : (l.map Int.ofNat).contains a with
  | true =>
    have e1 : gatherF l p q (shiftF m i d) a b = (p, q) := by unfold gatherF; rw [if_pos hin]
    rw [e1]
    rw [hin] at CC
    clear hin e1
    go_enter Tryz.func178, Tryz.ntmps178
    go_wp2_with (go_at_call 179; refine (CC.out _ (ptwo_below W a b 0 0)).mono ?_; rintro e w1 ⟨rfl, hw1⟩; replace hw1 := hw1.symm; subst hw1)
    refine bodyPost_ret (v := .agg #[.int .i64 p, .int .i64 q]) (by simp [results, Tryz.results178, go_sem]) rfl ?_
    exact ⟨rfl, by go_grown⟩
  | false =>
    have e1 : gatherF l p q (shiftF m i d) a b = shiftF m i d a b := by unfold gatherF; rw [if_neg (by rw [hin]; decide)]
    rw [e1]
    rw [hin] at CC
    obtain ⟨r0, r1, hr⟩ : ∃ r0 r1, shiftF m i d a b = (r0, r1) := ⟨_, _, rfl⟩
    rw [hr] at HS ⊢
    clear hr e1 hin
    go_enter Tryz.func178, Tryz.ntmps178
    go_wp2_with first
      | (go_at_call 179; refine (CC.out _ (ptwo_below W a b 0 0)).mono ?_; rintro e w0 ⟨rfl, hw1⟩; replace hw1 := hw1.symm; subst hw1)
      | (go_at_call 158; refine (HS.out _ (ptwo_below W a b 0 0)).mono ?_; rintro e w1 ⟨rfl, hb1⟩
         obtain ⟨q1, q2⟩ := ptwo_cells hb1
         have z0 : w1.cell? ⟨W.heap.size + 1, 0, none⟩ = some (.int .i64 0) := cell_of_heap q2 0
         have z1 : w1.cell? ⟨W.heap.size + 1, 1, none⟩ = some (.int .i64 0) := cell_of_heap q2 1
         have f0 := frozen_of_heap q2 0
         have f1 := frozen_of_heap q2 1
         have hlw := heap_lt q2
         have HB := hid ((ptwo_below W a b 0 0).trans (hb1.mono (ptwo_below W a b 0 0).size))
         clear q1 q2 hb1)
    refine bodyPost_ret (v := .agg #[.int .i64 r0, .int .i64 r1]) (by simp [results, Tryz.results178, go_sem, z0, z1, f0, f1, hlw]) rfl ?_
    exact ⟨rfl, (HB.out.setCell (p := ⟨W.heap.size + 1, 0, none⟩) (Nat.le_succ _) _).setCell (p := ⟨W.heap.size + 1, 1, none⟩) (Nat.le_succ _) _⟩

end Go.Proofs.YtabogkonklplcaaGreatDoor
