import Derived.Test.YtabogkonklplcaaGreatDoorV17
import Derived.Test.YtabogkonklplcaaGreatDoorV12
import Derived.Test.YtabogkonklplcaaGreatDoorV15
import Derived.Test.YtabogkonklplcaaGreatDoorV11

namespace Go.Proofs.YtabogkonklplcaaGreatDoor
open Go.RowKit
set_option linter.unusedSimpArgs false
set_option linter.unusedVariables false
theorem collect_all {W : World} {F : Nat → Prop} {bf bn cap : Nat} {pn : List PN} {s : List Nd} (wf : WF s) {h : Nat → Nat} {B : Nat} (u : Up s h B) (hD : PForAt W F bf bn cap pn s) (k n : Nat) (hn : n < s.length) (hk : h n < k) :
    Calls Tryz.prog 89 #[.func (.func 138) #[] #[ptr (W.heap.size + 1), ptr W.heap.size]] ((W.alloc (.cells #[ptr bf] 91)).alloc (.cells #[.int .i64 (n : Int)] 3)) fun e w' =>
      ∃ a c, e = .returned (.slice a (allF s k n).length c) ∧ Below W.heap.size W w' ∧ w'.ownsRow 0 3 1 (.slice a (allF s k n).length c) (allF s k n).length (intsV (allF s k n)) ∧ (∀ b, (Value.slice a (allF s k n).length c).ownBlock = some b → W.heap.size ≤ b) := by
  have hl := all_length wf k n hn
  have hN := hD.narrow
  have hlt := hD.lt
  obtain ⟨wb, hwb⟩ : ∃ wb, (W.alloc (.cells #[ptr bf] 91)).alloc (.cells #[.int .i64 (n : Int)] 3) = wb := ⟨_, rfl⟩
  have hszb : wb.heap.size = W.heap.size + 2 := by rw [← hwb]; simp
  have hbb : Below W.heap.size W wb := by rw [← hwb]; exact ((Below.refl _ W).alloc (Nat.le_refl _) _).alloc (by simp) _
  have x1 : wb.heap[W.heap.size + 1]? = some (.cells #[.int .i64 (n : Int)] 3 (0, 0)) := by
    have := heap_alloc_new (W.alloc (.cells #[ptr bf] 91)) (.cells #[.int .i64 (n : Int)] 3)
    rw [hwb, World.size_alloc] at this
    exact this
  have x0 : wb.heap[W.heap.size]? = some (.cells #[ptr bf] 91 (0, 0)) := by
    rw [← hwb, Below.heap_alloc _ _ _ (by simp)]
    exact heap_alloc_new W _
  rw [hwb]
  refine (collect_any (gf := 138) (lb := #[ptr (W.heap.size + 1), ptr W.heap.size]) (enters_of Tryz.func138 (by kernel_rfl) rfl) (xs := allF s k n) (by unfold lots; omega) (w := wb)
    (fun w1 O hb hO => all1_ok wf u k n hn hk w1 O _ _ ((hN.below hbb).below hb) (fun b hbF => ⟨by have := hbF.2; have := hb.size; omega, fun e => by have := hO b e; have := hbF.2; omega⟩)
      ((hb.cell (p := ⟨W.heap.size + 1, 0, none⟩) (heap_lt x1)).trans (cell_of_heap x1 0)) ((hb.cell (p := ⟨W.heap.size, 0, none⟩) (heap_lt x0)).trans (cell_of_heap x0 0)) (fun e => by have := hO _ e; omega) (fun e => by have := hO _ e; omega))).mono ?_
  rintro e w' ⟨a, c, rfl, hr, hb, hg⟩
  exact ⟨a, c, rfl, hbb.trans (hb.mono (by omega)), hr, fun g e => by have := hg g e; omega⟩
end Go.Proofs.YtabogkonklplcaaGreatDoor

namespace Go.Proofs.YtabogkonklplcaaGreatDoor
open Go.RowKit Go.Lib
set_option linter.unusedSimpArgs false
set_option linter.unusedVariables false
abbrev ptwo (w : World) (a0 a1 b0 b1 : Int) : World := (w.alloc (.cells #[.int .i64 a0, .int .i64 a1] 37)).alloc (.cells #[.int .i64 b0, .int .i64 b1] 37)
theorem ptwo_below (w : World) (a0 a1 b0 b1 : Int) : Below w.heap.size w (ptwo w a0 a1 b0 b1) := ((Below.refl _ w).alloc (Nat.le_refl _) _).alloc (by simp) _
theorem ptwo_cells {w w1 : World} {a0 a1 b0 b1 : Int} (hb : Below (ptwo w a0 a1 b0 b1).heap.size (ptwo w a0 a1 b0 b1) w1) :
    w1.heap[w.heap.size]? = some (.cells #[.int .i64 a0, .int .i64 a1] 37 (0, 0)) ∧ w1.heap[w.heap.size + 1]? = some (.cells #[.int .i64 b0, .int .i64 b1] 37 (0, 0)) := by
  constructor
  · rw [hb.block _ (by simp; omega), Below.heap_alloc _ _ _ (by simp), heap_alloc_new]
  · rw [hb.block _ (by simp)]
    have := heap_alloc_new (w.alloc (.cells #[.int .i64 a0, .int .i64 a1] 37)) (.cells #[.int .i64 b0, .int .i64 b1] 37)
    simpa using this
structure MoveOk (m : Nat) (w : World) (mv : Value) (f : Mvf) : Prop where
  runs : ∃ (gf : Nat) (lb : Array Value), mv = .func (.func gf) #[] lb ∧ (∀ args w, (callFunc gf args).run Tryz.prog w = .ok (.enter gf args) w) ∧
    ∀ (G : Nat → Prop) (W : World), Keeps G w W → (∀ b, m ≤ b → ¬ G b) → ∀ a b : Int, 0 ≤ b → b ≤ 100 →
      Calls Tryz.prog gf (#[.agg #[.int .i64 a, .int .i64 b]] ++ lb) W fun e w' => e = .returned (.agg #[.int .i64 (f a b).1, .int .i64 (f a b).2]) ∧ Below W.heap.size W w'
set_option maxRecDepth 20000 in
set_option maxHeartbeats 1000000 in
theorem shift1 (n o d a b : Int) (x y z : Nat) (W : World) (h0 : W.cell? ⟨x, 0, none⟩ = some (.int .i64 n)) (h1 : W.cell? ⟨y, 0, none⟩ = some (.int .i64 o)) (h2 : W.cell? ⟨z, 0, none⟩ = some (.int .i64 d)) (hb0 : 0 ≤ b) (hb : b ≤ 100) (hd0 : -100 ≤ d) (hd : d ≤ 100) :
    Calls Tryz.prog 158 #[.agg #[.int .i64 a, .int .i64 b], ptr x, ptr y, ptr z] W fun e w' => e = .returned (.agg #[.int .i64 (shiftF n o d a b).1, .int .i64 (shiftF n o d a b).2]) ∧ Below W.heap.size W w' := by
  have l0 := World.block_lt_of_cell? W _ h0
  have l1 := World.block_lt_of_cell? W _ h1
  have l2 := World.block_lt_of_cell? W _ h2
  by_cases ha : a = n
  · subst ha
    by_cases ho : o < b
    · have e1 : shiftF a o d a b = (a, b + d) := by simp [shiftF, ho]
      rw [e1]
      have d2 : decide (o < b) = true := decide_eq_true ho
      go_enter Tryz.func158, Tryz.ntmps158
      go_wp2
      refine bodyPost_ret (v := .agg #[.int .i64 a, .int .i64 (b + d)]) (by simp [results, Tryz.results158, go_sem]) rfl ?_
      exact ⟨rfl, by go_grown⟩
    · have e1 : shiftF a o d a b = (a, b) := by simp [shiftF, ho]
      rw [e1]
      have d2 : decide (o < b) = false := decide_eq_false ho
      go_enter Tryz.func158, Tryz.ntmps158
      go_wp2
      refine bodyPost_ret (v := .agg #[.int .i64 a, .int .i64 b]) (by simp [results, Tryz.results158, go_sem]) rfl ?_
      exact ⟨rfl, by go_grown⟩
  · have e1 : shiftF n o d a b = (a, b) := by simp [shiftF, ha]
    rw [e1]
    have d1 : (a == n) = false := by simpa using ha
    go_enter Tryz.func158, Tryz.ntmps158
    go_wp2
    refine bodyPost_ret (v := .agg #[.int .i64 a, .int .i64 b]) (by simp [results, Tryz.results158, go_sem]) rfl ?_
    exact ⟨rfl, by go_grown⟩
end Go.Proofs.YtabogkonklplcaaGreatDoor

namespace Go.Proofs.YtabogkonklplcaaGreatDoor
open Go.RowKit Go.Lib
set_option linter.unusedSimpArgs false
set_option linter.unusedVariables false
structure ShiftAt (W : World) (n o d : Int) (x y z : Nat) : Prop where
  h0 : W.cell? ⟨x, 0, none⟩ = some (.int .i64 n)
  h1 : W.cell? ⟨y, 0, none⟩ = some (.int .i64 o)
  h2 : W.cell? ⟨z, 0, none⟩ = some (.int .i64 d)
  d0 : -100 ≤ d
  d1 : d ≤ 100
theorem ShiftAt.runs {W W1 : World} {n o d : Int} {x y z : Nat} (h : ShiftAt W n o d x y z) (hb : Below W.heap.size W W1) {a b : Int} (hb0 : 0 ≤ b) (hb1 : b ≤ 100) :
    Calls Tryz.prog 158 #[.agg #[.int .i64 a, .int .i64 b], ptr x, ptr y, ptr z] W1 fun e w' => e = .returned (.agg #[.int .i64 (shiftF n o d a b).1, .int .i64 (shiftF n o d a b).2]) ∧ Below W1.heap.size W1 w' :=
  shift1 n o d a b x y z W1 ((hb.cell (World.block_lt_of_cell? W _ h.h0)).trans h.h0) ((hb.cell (World.block_lt_of_cell? W _ h.h1)).trans h.h1) ((hb.cell (World.block_lt_of_cell? W _ h.h2)).trans h.h2) hb0 hb1 h.d0 h.d1
abbrev shiftV (x y z : Nat) : Value := .func (.func 158) #[] #[ptr x, ptr y, ptr z]
set_option maxRecDepth 20000 in
set_option maxHeartbeats 1000000 in
theorem resize1 (n o t g a b : Int) (B0 B1 B2 B3 x y z : Nat) (W : World) (k0 : W.cell? ⟨B0, 0, none⟩ = some (.int .i64 n)) (k1 : W.cell? ⟨B1, 0, none⟩ = some (.int .i64 o)) (k2 : W.cell? ⟨B2, 0, none⟩ = some (.int .i64 t)) (k3 : W.cell? ⟨B3, 0, none⟩ = some (shiftV x y z)) (hS : ShiftAt W n (o + t) (g - t) x y z) (ho0 : 0 ≤ o) (ho : o ≤ 100) (ht0 : 0 ≤ t) (ht : t ≤ 100) (hb0 : 0 ≤ b) (hb : b ≤ 100) :
    Calls Tryz.prog 154 #[.agg #[.int .i64 a, .int .i64 b], ptr B0, ptr B1, ptr B2, ptr B3] W fun e w' => e = .returned (.agg #[.int .i64 (resizeF n o t g a b).1, .int .i64 (resizeF n o t g a b).2]) ∧ Below W.heap.size W w' := by
  have l0 := World.block_lt_of_cell? W _ k0
  have l1 := World.block_lt_of_cell? W _ k1
  have l2 := World.block_lt_of_cell? W _ k2
  have l3 := World.block_lt_of_cell? W _ k3
  have HS := hid (fun W1 (hB : Below W.heap.size W W1) => hS.runs hB (a := a) (b := b) hb0 hb)
  have q : IntKind.i64.wrap (o + t) = o + t := by rw [IntKind.wrap_i64]; omega
  clear hS
  by_cases hc : a = n ∧ o < b ∧ b ≤ o + t
  · obtain ⟨rfl, h2, h3⟩ := hc
    have e1 : resizeF a o t g a b = (a, o) := by simp [resizeF, h2, h3]
    rw [e1]
    have d2 : decide (o < b) = true := decide_eq_true h2
    have d3 : decide (b ≤ o + t) = true := decide_eq_true h3
    go_enter Tryz.func154, Tryz.ntmps154
    go_wp2
    refine bodyPost_ret (v := .agg #[.int .i64 a, .int .i64 o]) (by simp [results, Tryz.results154, go_sem]) rfl ?_
    exact ⟨rfl, by go_grown⟩
  · have e1 : resizeF n o t g a b = shiftF n (o + t) (g - t) a b := by unfold resizeF; rw [if_neg hc]
    rw [e1]
    obtain ⟨r0, r1, hr⟩ : ∃ r0 r1, shiftF n (o + t) (g - t) a b = (r0, r1) := ⟨_, _, rfl⟩
    rw [hr] at HS ⊢
    clear hr e1
    by_cases h1 : a = n
    · subst h1
      by_cases h2 : o < b
      · have h3 : ¬ b ≤ o + t := fun h => hc ⟨rfl, h2, h⟩
        have d2 : decide (o < b) = true := decide_eq_true h2
        have d3 : decide (b ≤ o + t) = false := decide_eq_false h3
        go_enter Tryz.func154, Tryz.ntmps154
        go_wp2_with (go_at_call 158; refine (HS.out _ (ptwo_below W a b 0 0)).mono ?_; rintro e w1 ⟨rfl, hb1⟩
                     obtain ⟨q1, q2⟩ := ptwo_cells hb1
                     have z0 : w1.cell? ⟨W.heap.size + 1, 0, none⟩ = some (.int .i64 0) := cell_of_heap q2 0
                     have z1 : w1.cell? ⟨W.heap.size + 1, 1, none⟩ = some (.int .i64 0) := cell_of_heap q2 1
                     have f0 := frozen_of_heap q2 0
                     have f1 := frozen_of_heap q2 1
                     have hl := heap_lt q2
                     have HB := hid ((ptwo_below W a b 0 0).trans (hb1.mono (ptwo_below W a b 0 0).size))
                     clear q1 q2 hb1)
        refine bodyPost_ret (v := .agg #[.int .i64 r0, .int .i64 r1]) (by simp [results, Tryz.results154, go_sem, z0, z1, f0, f1, hl]) rfl ?_
        exact ⟨rfl, (HB.out.setCell (p := ⟨W.heap.size + 1, 0, none⟩) (Nat.le_succ _) _).setCell (p := ⟨W.heap.size + 1, 1, none⟩) (Nat.le_succ _) _⟩
      · have d2 : decide (o < b) = false := decide_eq_false h2
        go_enter Tryz.func154, Tryz.ntmps154
        go_wp2_with (go_at_call 158; refine (HS.out _ (ptwo_below W a b 0 0)).mono ?_; rintro e w1 ⟨rfl, hb1⟩
                     obtain ⟨q1, q2⟩ := ptwo_cells hb1
                     have z0 : w1.cell? ⟨W.heap.size + 1, 0, none⟩ = some (.int .i64 0) := cell_of_heap q2 0
                     have z1 : w1.cell? ⟨W.heap.size + 1, 1, none⟩ = some (.int .i64 0) := cell_of_heap q2 1
                     have f0 := frozen_of_heap q2 0
                     have f1 := frozen_of_heap q2 1
                     have hl := heap_lt q2
                     have HB := hid ((ptwo_below W a b 0 0).trans (hb1.mono (ptwo_below W a b 0 0).size))
                     clear q1 q2 hb1)
        refine bodyPost_ret (v := .agg #[.int .i64 r0, .int .i64 r1]) (by simp [results, Tryz.results154, go_sem, z0, z1, f0, f1, hl]) rfl ?_
        exact ⟨rfl, (HB.out.setCell (p := ⟨W.heap.size + 1, 0, none⟩) (Nat.le_succ _) _).setCell (p := ⟨W.heap.size + 1, 1, none⟩) (Nat.le_succ _) _⟩
    · have d1 : (a == n) = false := by simpa using h1
      go_enter Tryz.func154, Tryz.ntmps154
      go_wp2_with (go_at_call 158; refine (HS.out _ (ptwo_below W a b 0 0)).mono ?_; rintro e w1 ⟨rfl, hb1⟩
                   obtain ⟨q1, q2⟩ := ptwo_cells hb1
                   have z0 : w1.cell? ⟨W.heap.size + 1, 0, none⟩ = some (.int .i64 0) := cell_of_heap q2 0
                   have z1 : w1.cell? ⟨W.heap.size + 1, 1, none⟩ = some (.int .i64 0) := cell_of_heap q2 1
                   have f0 := frozen_of_heap q2 0
                   have f1 := frozen_of_heap q2 1
                   have hl := heap_lt q2
                   have HB := hid ((ptwo_below W a b 0 0).trans (hb1.mono (ptwo_below W a b 0 0).size))
                   clear q1 q2 hb1)
      refine bodyPost_ret (v := .agg #[.int .i64 r0, .int .i64 r1]) (by simp [results, Tryz.results154, go_sem, z0, z1, f0, f1, hl]) rfl ?_
      exact ⟨rfl, (HB.out.setCell (p := ⟨W.heap.size + 1, 0, none⟩) (Nat.le_succ _) _).setCell (p := ⟨W.heap.size + 1, 1, none⟩) (Nat.le_succ _) _⟩
set_option maxRecDepth 20000 in
set_option maxHeartbeats 1000000 in
theorem carry1 (n o fr m i d a b : Int) (B0 B1 B2 B3 x y z : Nat) (W : World) (k0 : W.cell? ⟨B0, 0, none⟩ = some (.int .i64 n)) (k1 : W.cell? ⟨B1, 0, none⟩ = some (.int .i64 o)) (k2 : W.cell? ⟨B2, 0, none⟩ = some (.int .i64 fr)) (k3 : W.cell? ⟨B3, 0, none⟩ = some (shiftV x y z)) (hS : ShiftAt W m i d x y z) (ho0 : 0 ≤ o) (ho : o ≤ 100) (hb0 : 0 ≤ b) (hb : b ≤ 100) :
    Calls Tryz.prog 157 #[.agg #[.int .i64 a, .int .i64 b], ptr B0, ptr B1, ptr B2, ptr B3] W fun e w' => e = .returned (.agg #[.int .i64 (carryF n o fr (shiftF m i d) a b).1, .int .i64 (carryF n o fr (shiftF m i d) a b).2]) ∧ Below W.heap.size W w' := by
  have l0 := World.block_lt_of_cell? W _ k0
  have l1 := World.block_lt_of_cell? W _ k1
  have l2 := World.block_lt_of_cell? W _ k2
  have l3 := World.block_lt_of_cell? W _ k3
  have HS := hid (fun W1 (hB : Below W.heap.size W W1) => hS.runs hB (a := a) (b := b) hb0 hb)
  clear hS
  by_cases hc : a = n ∧ o < b
  · obtain ⟨rfl, h2⟩ := hc
    have e1 : carryF a o fr (shiftF m i d) a b = (fr, b - o) := by simp [carryF, h2]
    rw [e1]
    have d2 : decide (o < b) = true := decide_eq_true h2
    go_enter Tryz.func157, Tryz.ntmps157
    go_wp2
    refine bodyPost_ret (v := .agg #[.int .i64 fr, .int .i64 (b - o)]) (by simp [results, Tryz.results157, go_sem]) rfl ?_
    exact ⟨rfl, by go_grown⟩
  · have e1 : carryF n o fr (shiftF m i d) a b = shiftF m i d a b := by unfold carryF; rw [if_neg hc]
    rw [e1]
    obtain ⟨r0, r1, hr⟩ : ∃ r0 r1, shiftF m i d a b = (r0, r1) := ⟨_, _, rfl⟩
    rw [hr] at HS ⊢
    clear hr e1
    by_cases h1 : a = n
    · subst h1
      have d2 : decide (o < b) = false := decide_eq_false (fun h => hc ⟨rfl, h⟩)
      go_enter Tryz.func157, Tryz.ntmps157
      go_wp2_with (go_at_call 158; refine (HS.out _ (ptwo_below W a b 0 0)).mono ?_; rintro e w1 ⟨rfl, hb1⟩
                   obtain ⟨q1, q2⟩ := ptwo_cells hb1
                   have z0 : w1.cell? ⟨W.heap.size + 1, 0, none⟩ = some (.int .i64 0) := cell_of_heap q2 0
                   have z1 : w1.cell? ⟨W.heap.size + 1, 1, none⟩ = some (.int .i64 0) := cell_of_heap q2 1
                   have f0 := frozen_of_heap q2 0
                   have f1 := frozen_of_heap q2 1
                   have hl := heap_lt q2
                   have HB := hid ((ptwo_below W a b 0 0).trans (hb1.mono (ptwo_below W a b 0 0).size))
                   clear q1 q2 hb1)
      refine bodyPost_ret (v := .agg #[.int .i64 r0, .int .i64 r1]) (by simp [results, Tryz.results157, go_sem, z0, z1, f0, f1, hl]) rfl ?_
      exact ⟨rfl, (HB.out.setCell (p := ⟨W.heap.size + 1, 0, none⟩) (Nat.le_succ _) _).setCell (p := ⟨W.heap.size + 1, 1, none⟩) (Nat.le_succ _) _⟩
    · have d1 : (a == n) = false := by simpa using h1
      go_enter Tryz.func157, Tryz.ntmps157
      go_wp2_with (go_at_call 158; refine (HS.out _ (ptwo_below W a b 0 0)).mono ?_; rintro e w1 ⟨rfl, hb1⟩
                   obtain ⟨q1, q2⟩ := ptwo_cells hb1
                   have z0 : w1.cell? ⟨W.heap.size + 1, 0, none⟩ = some (.int .i64 0) := cell_of_heap q2 0
                   have z1 : w1.cell? ⟨W.heap.size + 1, 1, none⟩ = some (.int .i64 0) := cell_of_heap q2 1
                   have f0 := frozen_of_heap q2 0
                   have f1 := frozen_of_heap q2 1
                   have hl := heap_lt q2
                   have HB := hid ((ptwo_below W a b 0 0).trans (hb1.mono (ptwo_below W a b 0 0).size))
                   clear q1 q2 hb1)
      refine bodyPost_ret (v := .agg #[.int .i64 r0, .int .i64 r1]) (by simp [results, Tryz.results157, go_sem, z0, z1, f0, f1, hl]) rfl ?_
      exact ⟨rfl, (HB.out.setCell (p := ⟨W.heap.size + 1, 0, none⟩) (Nat.le_succ _) _).setCell (p := ⟨W.heap.size + 1, 1, none⟩) (Nat.le_succ _) _⟩
end Go.Proofs.YtabogkonklplcaaGreatDoor

namespace Go.Proofs.YtabogkonklplcaaGreatDoor
open Go.RowKit Go.Lib
set_option linter.unusedSimpArgs false
set_option linter.unusedVariables false
set_option maxRecDepth 20000 in
set_option maxHeartbeats 1000000 in
theorem gather1 (l : List Nat) (p q m i d a b : Int) (B0 B1 B2 x y z : Nat) (v : Value) (W : World) (hrow : W.ownsRow 0 3 1 v l.length (intsV l)) (hne : l ≠ []) (hl : l.length < lots) (k0 : W.cell? ⟨B0, 0, none⟩ = some v) (k1 : W.cell? ⟨B1, 0, none⟩ = some (.int .i64 p)) (k1' : W.cell? ⟨B1, 1, none⟩ = some (.int .i64 q)) (k2 : W.cell? ⟨B2, 0, none⟩ = some (shiftV x y z)) (hS : ShiftAt W m i d x y z) (hb0 : 0 ≤ b) (hb : b ≤ 100) :
    Calls Tryz.prog 178 #[.agg #[.int .i64 a, .int .i64 b], ptr B0, ptr B1, ptr B2] W fun e w' => e = .returned (.agg #[.int .i64 (gatherF l p q (shiftF m i d) a b).1, .int .i64 (gatherF l p q (shiftF m i d) a b).2]) ∧ Below W.heap.size W w' := by
  have l0 := World.block_lt_of_cell? W _ k0
  have l1 := World.block_lt_of_cell? W _ k1
  have l2 := World.block_lt_of_cell? W _ k2
  obtain ⟨g, cp, cur, hv, hh, hn, hc, hcs, ht, hcell, hfr⟩ := row_ints hrow hne
  subst hv
  have CC := hid (fun W1 (hB : Below W.heap.size W W1) => Tryz.slices_Contains_int g 0 l.length cp (l.map Int.ofNat) a W1 (by simp) (by unfold lots at hl; omega) (fun j hj => (hB.cell (p := ⟨g, 0 + j, none⟩) (heap_lt hh)).trans (hcell j hj)))
  rw [List.take_of_length_le (by simp)] at CC
  have HS := hid (fun W1 (hB : Below W.heap.size W W1) => hS.runs hB (a := a) (b := b) hb0 hb)
  clear hS hrow hh hcell hfr ht
  cases hin : (l.map Int.ofNat).contains a with
  | true =>
    have e1 : gatherF l p q (shiftF m i d) a b = (p, q) := by unfold gatherF; rw [if_pos hin]
    rw [e1]
    rw [hin] at CC
    clear hin e1
    go_enter Tryz.func178, Tryz.ntmps178
    go_wp2_with (go_at_call 179; refine (CC.out _ (ptwo_below W a b 0 0)).mono ?_; rintro e w1 ⟨rfl, hw1⟩; replace hw1 := hw1.symm; subst hw1)
    refine bodyPost_ret (v := .agg #[.int .i64 p, .int .i64 q]) (by simp [results, Tryz.results178, go_sem]) rfl ?_
    exact ⟨rfl, by go_grown⟩
  | false =>
    have e1 : gatherF l p q (shiftF m i d) a b = shiftF m i d a b := by unfold gatherF; rw [if_neg (by rw [hin]; decide)]
    rw [e1]
    rw [hin] at CC
    obtain ⟨r0, r1, hr⟩ : ∃ r0 r1, shiftF m i d a b = (r0, r1) := ⟨_, _, rfl⟩
    rw [hr] at HS ⊢
    clear hr e1 hin
    go_enter Tryz.func178, Tryz.ntmps178
    go_wp2_with first
      | (go_at_call 179; refine (CC.out _ (ptwo_below W a b 0 0)).mono ?_; rintro e w0 ⟨rfl, hw1⟩; replace hw1 := hw1.symm; subst hw1)
      | (go_at_call 158; refine (HS.out _ (ptwo_below W a b 0 0)).mono ?_; rintro e w1 ⟨rfl, hb1⟩
         obtain ⟨q1, q2⟩ := ptwo_cells hb1
         have z0 : w1.cell? ⟨W.heap.size + 1, 0, none⟩ = some (.int .i64 0) := cell_of_heap q2 0
         have z1 : w1.cell? ⟨W.heap.size + 1, 1, none⟩ = some (.int .i64 0) := cell_of_heap q2 1
         have f0 := frozen_of_heap q2 0
         have f1 := frozen_of_heap q2 1
         have hlw := heap_lt q2
         have HB := hid ((ptwo_below W a b 0 0).trans (hb1.mono (ptwo_below W a b 0 0).size))
         clear q1 q2 hb1)
    refine bodyPost_ret (v := .agg #[.int .i64 r0, .int .i64 r1]) (by simp [results, Tryz.results178, go_sem, z0, z1, f0, f1, hlw]) rfl ?_
    exact ⟨rfl, (HB.out.setCell (p := ⟨W.heap.size + 1, 0, none⟩) (Nat.le_succ _) _).setCell (p := ⟨W.heap.size + 1, 1, none⟩) (Nat.le_succ _) _⟩
end Go.Proofs.YtabogkonklplcaaGreatDoor

namespace Go.Proofs.YtabogkonklplcaaGreatDoor
open Go.RowKit Go.Lib
set_option linter.unusedSimpArgs false
set_option linter.unusedVariables false
theorem ShiftAt.keeps {w W : World} {n o d : Int} {x y z m : Nat} {G : Nat → Prop} (h : ShiftAt w n o d x y z) (hm : m ≤ x ∧ m ≤ y ∧ m ≤ z) (hk : Keeps G w W) (hG : ∀ b, m ≤ b → ¬ G b) : ShiftAt W n o d x y z :=
  ⟨hk.cell h.h0 (hG _ hm.1), hk.cell h.h1 (hG _ hm.2.1), hk.cell h.h2 (hG _ hm.2.2), h.d0, h.d1⟩
theorem ShiftAt.move {w : World} {n o d : Int} {x y z m : Nat} (h : ShiftAt w n o d x y z) (hm : m ≤ x ∧ m ≤ y ∧ m ≤ z) : MoveOk m w (shiftV x y z) (shiftF n o d) :=
  ⟨_, _, rfl, enters_of Tryz.func158 (by kernel_rfl) rfl, fun G W hk hG a b hb0 hb => (h.keeps hm hk hG).runs (Below.refl _ _) hb0 hb⟩
theorem MoveOk.keeps {w W : World} {m : Nat} {mv : Value} {f : Mvf} {G : Nat → Prop} (h : MoveOk m w mv f) (hk : Keeps G w W) (hG : ∀ b, m ≤ b → ¬ G b) : MoveOk m W mv f := by
  obtain ⟨gf, lb, e, he, hr⟩ := h.runs
  refine ⟨gf, lb, e, he, fun G2 W2 hk2 hG2 => hr (fun b => b < m) W2 ?_ (fun b hb e => by omega)⟩
  refine (hk.mono (fun k _ e => ?_)).trans (hk2.mono (fun k _ e => ?_))
  · rcases Nat.lt_or_ge k m with h | h
    · exact h
    · exact absurd e (hG k h)
  · rcases Nat.lt_or_ge k m with h | h
    · exact .inl h
    · exact absurd e (hG2 k h)
set_option maxHeartbeats 1000000 in
theorem shift_at (n o d : Int) (hd0 : -100 ≤ d) (hd : d ≤ 100) (w : World) : Calls Tryz.prog 109 #[.int .i64 n, .int .i64 o, .int .i64 d] w fun e w' => ∃ x y z, e = .returned (shiftV x y z) ∧ Below w.heap.size w w' ∧ ShiftAt w' n o d x y z ∧ w.heap.size ≤ x ∧ w.heap.size ≤ y ∧ w.heap.size ≤ z := by
  go_enter Tryz.func109, Tryz.ntmps109
  go_wp2
  go_ret
  refine ⟨w.heap.size, w.heap.size + 1, w.heap.size + 1 + 1, rfl, by go_grown, ?_, Nat.le_refl _, by omega, by omega⟩
  have a0 : ((((w.alloc (.cells #[.int .i64 n] 3)).alloc (.cells #[.int .i64 o] 3)).alloc (.cells #[.int .i64 d] 3))).heap[w.heap.size]? = some (.cells #[.int .i64 n] 3 (0, 0)) := by
    rw [Below.heap_alloc _ _ _ (by simp only [World.size_alloc]; omega), Below.heap_alloc _ _ _ (by simp), heap_alloc_new]
  have a1 : ((((w.alloc (.cells #[.int .i64 n] 3)).alloc (.cells #[.int .i64 o] 3)).alloc (.cells #[.int .i64 d] 3))).heap[w.heap.size + 1]? = some (.cells #[.int .i64 o] 3 (0, 0)) := by
    rw [Below.heap_alloc _ _ _ (by simp)]
    have := heap_alloc_new (w.alloc (.cells #[.int .i64 n] 3)) (.cells #[.int .i64 o] 3)
    simpa using this
  have a2 : ((((w.alloc (.cells #[.int .i64 n] 3)).alloc (.cells #[.int .i64 o] 3)).alloc (.cells #[.int .i64 d] 3))).heap[w.heap.size + 1 + 1]? = some (.cells #[.int .i64 d] 3 (0, 0)) := by
    have := heap_alloc_new ((w.alloc (.cells #[.int .i64 n] 3)).alloc (.cells #[.int .i64 o] 3)) (.cells #[.int .i64 d] 3)
    simpa using this
  exact ⟨cell_of_heap a0 0, cell_of_heap a1 0, cell_of_heap a2 0, hd0, hd⟩
set_option maxHeartbeats 1000000 in
theorem gather_at (l : List Nat) (a : Option Addr) (c : Nat) (p q n o d : Int) (x y z m : Nat) (w : World) (hrow : w.ownsRow 0 3 1 (.slice a l.length c) l.length (intsV l)) (hrm : ∀ b, (Value.slice a l.length c).ownBlock = some b → m ≤ b) (hne : l ≠ []) (hl : l.length < lots) (hS : ShiftAt w n o d x y z) (hm : m ≤ x ∧ m ≤ y ∧ m ≤ z) (hmw : m ≤ w.heap.size) :
    Calls Tryz.prog 151 #[.slice a l.length c, .agg #[.int .i64 p, .int .i64 q], shiftV x y z] w fun e w' => ∃ bs, e = .returned (.func (.func 178) #[] bs) ∧ Below w.heap.size w w' ∧ MoveOk m w' (.func (.func 178) #[] bs) (gatherF l p q (shiftF n o d)) := by
  have H := hid (And.intro hrow (And.intro hrm (And.intro hS hm)))
  clear hrow hrm hS hm
  go_enter Tryz.func151, Tryz.ntmps151
  go_wp2
  go_ret
  obtain ⟨hrow, hrm, hS, hm⟩ := H.out
  have hB : Below w.heap.size w (((w.alloc (.cells #[.slice a l.length c] 24)).alloc (.cells #[.int .i64 p, .int .i64 q] 37)).alloc (.cells #[shiftV x y z] 110)) := (((Below.refl _ w).alloc (Nat.le_refl _) _).alloc (by simp) _).alloc (by simp only [World.size_alloc]; omega) _
  refine ⟨_, rfl, by first | exact hB | go_grown, ?_⟩
  have a0 : (((w.alloc (.cells #[.slice a l.length c] 24)).alloc (.cells #[.int .i64 p, .int .i64 q] 37)).alloc (.cells #[shiftV x y z] 110)).heap[w.heap.size]? = some (.cells #[.slice a l.length c] 24 (0, 0)) := by
    rw [Below.heap_alloc _ _ _ (by simp only [World.size_alloc]; omega), Below.heap_alloc _ _ _ (by simp), heap_alloc_new]
  have a1 : (((w.alloc (.cells #[.slice a l.length c] 24)).alloc (.cells #[.int .i64 p, .int .i64 q] 37)).alloc (.cells #[shiftV x y z] 110)).heap[w.heap.size + 1]? = some (.cells #[.int .i64 p, .int .i64 q] 37 (0, 0)) := by
    rw [Below.heap_alloc _ _ _ (by simp)]
    have := heap_alloc_new (w.alloc (.cells #[.slice a l.length c] 24)) (.cells #[.int .i64 p, .int .i64 q] 37)
    simpa using this
  have a2 : (((w.alloc (.cells #[.slice a l.length c] 24)).alloc (.cells #[.int .i64 p, .int .i64 q] 37)).alloc (.cells #[shiftV x y z] 110)).heap[w.heap.size + 1 + 1]? = some (.cells #[shiftV x y z] 110 (0, 0)) := by
    have := heap_alloc_new ((w.alloc (.cells #[.slice a l.length c] 24)).alloc (.cells #[.int .i64 p, .int .i64 q] 37)) (.cells #[shiftV x y z] 110)
    simpa using this
  have hk0 := Keeps.of_below (F := fun _ => False) hB
  refine ⟨_, _, rfl, enters_of Tryz.func178 (by kernel_rfl) rfl, fun G W hk hG e f hb0 hb => ?_⟩
  exact gather1 l p q n o d e f w.heap.size (w.heap.size + 1) (w.heap.size + 1 + 1) x y z (.slice a l.length c) W (hk.row (hk0.row hrow (fun _ _ e => e)) (fun b e => hG b (hrm b e))) hne hl
    (hk.cell (cell_of_heap a0 0) (hG _ hmw)) (hk.cell (cell_of_heap a1 0) (hG _ (by show m ≤ w.heap.size + 1; omega))) (hk.cell (cell_of_heap a1 1) (hG _ (by show m ≤ w.heap.size + 1; omega))) (hk.cell (cell_of_heap a2 0) (hG _ (by show m ≤ w.heap.size + 1 + 1; omega)))
    ((hS.keeps hm hk0 (fun _ _ e => e)).keeps hm hk hG) hb0 hb
set_option maxHeartbeats 1000000 in
theorem carry_at (n o fr p i d : Int) (x y z m : Nat) (w : World) (hS : ShiftAt w p i d x y z) (hm : m ≤ x ∧ m ≤ y ∧ m ≤ z) (hmw : m ≤ w.heap.size) (ho0 : 0 ≤ o) (ho : o ≤ 100) :
    Calls Tryz.prog 108 #[.int .i64 n, .int .i64 o, .int .i64 fr, shiftV x y z] w fun e w' => ∃ bs, e = .returned (.func (.func 157) #[] bs) ∧ Below w.heap.size w w' ∧ MoveOk m w' (.func (.func 157) #[] bs) (carryF n o fr (shiftF p i d)) := by
  have H := hid (And.intro hS hm)
  clear hS hm
  go_enter Tryz.func108, Tryz.ntmps108
  go_wp2
  go_ret
  obtain ⟨hS, hm⟩ := H.out
  have hB : Below w.heap.size w ((((w.alloc (.cells #[.int .i64 n] 3)).alloc (.cells #[.int .i64 o] 3)).alloc (.cells #[.int .i64 fr] 3)).alloc (.cells #[shiftV x y z] 110)) := ((((Below.refl _ w).alloc (Nat.le_refl _) _).alloc (by simp) _).alloc (by simp only [World.size_alloc]; omega) _).alloc (by simp only [World.size_alloc]; omega) _
  refine ⟨_, rfl, by first | exact hB | go_grown, ?_⟩
  have a0 : ((((w.alloc (.cells #[.int .i64 n] 3)).alloc (.cells #[.int .i64 o] 3)).alloc (.cells #[.int .i64 fr] 3)).alloc (.cells #[shiftV x y z] 110)).heap[w.heap.size]? = some (.cells #[.int .i64 n] 3 (0, 0)) := by
    rw [Below.heap_alloc _ _ _ (by simp only [World.size_alloc]; omega), Below.heap_alloc _ _ _ (by simp only [World.size_alloc]; omega), Below.heap_alloc _ _ _ (by simp), heap_alloc_new]
  have a1 : ((((w.alloc (.cells #[.int .i64 n] 3)).alloc (.cells #[.int .i64 o] 3)).alloc (.cells #[.int .i64 fr] 3)).alloc (.cells #[shiftV x y z] 110)).heap[w.heap.size + 1]? = some (.cells #[.int .i64 o] 3 (0, 0)) := by
    rw [Below.heap_alloc _ _ _ (by simp only [World.size_alloc]; omega), Below.heap_alloc _ _ _ (by simp)]
    have := heap_alloc_new (w.alloc (.cells #[.int .i64 n] 3)) (.cells #[.int .i64 o] 3)
    simpa using this
  have a2 : ((((w.alloc (.cells #[.int .i64 n] 3)).alloc (.cells #[.int .i64 o] 3)).alloc (.cells #[.int .i64 fr] 3)).alloc (.cells #[shiftV x y z] 110)).heap[w.heap.size + 1 + 1]? = some (.cells #[.int .i64 fr] 3 (0, 0)) := by
    rw [Below.heap_alloc _ _ _ (by simp)]
    have := heap_alloc_new ((w.alloc (.cells #[.int .i64 n] 3)).alloc (.cells #[.int .i64 o] 3)) (.cells #[.int .i64 fr] 3)
    simpa using this
  have a3 : ((((w.alloc (.cells #[.int .i64 n] 3)).alloc (.cells #[.int .i64 o] 3)).alloc (.cells #[.int .i64 fr] 3)).alloc (.cells #[shiftV x y z] 110)).heap[w.heap.size + 1 + 1 + 1]? = some (.cells #[shiftV x y z] 110 (0, 0)) := by
    have := heap_alloc_new (((w.alloc (.cells #[.int .i64 n] 3)).alloc (.cells #[.int .i64 o] 3)).alloc (.cells #[.int .i64 fr] 3)) (.cells #[shiftV x y z] 110)
    simpa using this
  have hk0 := Keeps.of_below (F := fun _ => False) hB
  refine ⟨_, _, rfl, enters_of Tryz.func157 (by kernel_rfl) rfl, fun G W hk hG e f hb0 hb => ?_⟩
  exact carry1 n o fr p i d e f w.heap.size (w.heap.size + 1) (w.heap.size + 1 + 1) (w.heap.size + 1 + 1 + 1) x y z W
    (hk.cell (cell_of_heap a0 0) (hG _ hmw)) (hk.cell (cell_of_heap a1 0) (hG _ (by show m ≤ w.heap.size + 1; omega))) (hk.cell (cell_of_heap a2 0) (hG _ (by show m ≤ w.heap.size + 1 + 1; omega))) (hk.cell (cell_of_heap a3 0) (hG _ (by show m ≤ w.heap.size + 1 + 1 + 1; omega)))
    ((hS.keeps hm hk0 (fun _ _ e => e)).keeps hm hk hG) ho0 ho hb0 hb
set_option maxHeartbeats 1000000 in
theorem resize_at (n o t g : Int) (w : World) (ho0 : 0 ≤ o) (ho : o ≤ 30) (ht0 : 0 ≤ t) (ht : t ≤ 30) (hg0 : 0 ≤ g) (hg : g ≤ 30) : Calls Tryz.prog 104 #[.int .i64 n, .int .i64 o, .int .i64 t, .int .i64 g] w fun e w' => ∃ bs, e = .returned (.func (.func 154) #[] bs) ∧ Below w.heap.size w w' ∧ MoveOk w.heap.size w' (.func (.func 154) #[] bs) (resizeF n o t g) := by
  obtain ⟨W3, hW3⟩ : ∃ W3, ((w.alloc (.cells #[.int .i64 n] 3)).alloc (.cells #[.int .i64 o] 3)).alloc (.cells #[.int .i64 t] 3) = W3 := ⟨_, rfl⟩
  have h0 : Below w.heap.size w W3 := by rw [← hW3]; exact (((Below.refl _ w).alloc (Nat.le_refl _) _).alloc (by simp) _).alloc (by simp only [World.size_alloc]; omega) _
  have a0 : W3.heap[w.heap.size]? = some (.cells #[.int .i64 n] 3 (0, 0)) := by
    rw [← hW3, Below.heap_alloc _ _ _ (by simp only [World.size_alloc]; omega), Below.heap_alloc _ _ _ (by simp), heap_alloc_new]
  have a1 : W3.heap[w.heap.size + 1]? = some (.cells #[.int .i64 o] 3 (0, 0)) := by
    rw [← hW3, Below.heap_alloc _ _ _ (by simp)]
    have := heap_alloc_new (w.alloc (.cells #[.int .i64 n] 3)) (.cells #[.int .i64 o] 3)
    simpa using this
  have a2 : W3.heap[w.heap.size + 1 + 1]? = some (.cells #[.int .i64 t] 3 (0, 0)) := by
    rw [← hW3]
    have := heap_alloc_new ((w.alloc (.cells #[.int .i64 n] 3)).alloc (.cells #[.int .i64 o] 3)) (.cells #[.int .i64 t] 3)
    simpa using this
  have H0 := hid (And.intro h0 (And.intro a0 (And.intro a1 a2)))
  have C := hid (shift_at n (o + t) (g - t) (by omega) (by omega) W3)
  have q1 : IntKind.i64.wrap (o + t) = o + t := by rw [IntKind.wrap_i64]; omega
  have q2 : IntKind.i64.wrap (g - t) = g - t := by rw [IntKind.wrap_i64]; omega
  rw [← hW3] at C
  have HW3 := hid hW3
  clear h0 a0 a1 a2 hW3
  go_enter Tryz.func104, Tryz.ntmps104
  go_wp2_with (go_at_call 109; refine C.out.mono ?_; rintro e w1 ⟨x, y, z, rfl, hb, hS, hx, hy, hz⟩
               have H1 := hid (And.intro hb (And.intro hS (And.intro hx (And.intro hy hz))))
               clear hb hS hx hy hz
               have st : (store ⟨w1.heap.size, 0, none⟩ (shiftV x y z)).run Tryz.prog (w1.alloc (.cells #[.nilFunc] 110)) = .ok () ((w1.alloc (.cells #[.nilFunc] 110)).setCell ⟨w1.heap.size, 0, none⟩ (shiftV x y z)) := by
                 rw [run_store Tryz.prog _ _ _ _ (by rfl)]; simp)
  go_ret
  rw [HW3.out] at H1
  obtain ⟨hb, hS, hx, hy, hz⟩ := H1.out
  obtain ⟨h0, a0, a1, a2⟩ := H0.out
  have hs3 := h0.size
  have l2 := heap_lt a2
  have hs1 := hb.size
  have hB1 : Below w.heap.size w w1 := h0.trans (hb.mono hs3)
  have hB : Below w.heap.size w (w1.alloc (.cells #[shiftV x y z] 110)) := hB1.alloc (by omega) _
  refine ⟨_, rfl, by first | exact hB | go_grown, ?_⟩
  have b0 : (w1.alloc (.cells #[shiftV x y z] 110)).heap[w.heap.size]? = _ := (Below.heap_alloc _ _ _ (by omega)).trans ((hb.block _ (heap_lt a0)).trans a0)
  have b1 : (w1.alloc (.cells #[shiftV x y z] 110)).heap[w.heap.size + 1]? = _ := (Below.heap_alloc _ _ _ (by omega)).trans ((hb.block _ (heap_lt a1)).trans a1)
  have b2 : (w1.alloc (.cells #[shiftV x y z] 110)).heap[w.heap.size + 1 + 1]? = _ := (Below.heap_alloc _ _ _ (by omega)).trans ((hb.block _ (heap_lt a2)).trans a2)
  have b3 : (w1.alloc (.cells #[shiftV x y z] 110)).heap[w1.heap.size]? = _ := heap_alloc_new w1 (.cells #[shiftV x y z] 110)
  have hm : w.heap.size ≤ x ∧ w.heap.size ≤ y ∧ w.heap.size ≤ z := ⟨by omega, by omega, by omega⟩
  have hk0 : Keeps (fun _ => False) w1 (w1.alloc (.cells #[shiftV x y z] 110)) := (Keeps.refl _ w1).alloc _
  have hS2 := hS.keeps hm hk0 (fun _ _ e => e)
  refine ⟨_, _, rfl, enters_of Tryz.func154 (by kernel_rfl) rfl, fun G W hk hG e f hb0 hb' => ?_⟩
  exact resize1 n o t g e f w.heap.size (w.heap.size + 1) (w.heap.size + 1 + 1) w1.heap.size x y z W
    (hk.cell (cell_of_heap b0 0) (hG _ (Nat.le_refl _))) (hk.cell (cell_of_heap b1 0) (hG _ (by show w.heap.size ≤ w.heap.size + 1; omega))) (hk.cell (cell_of_heap b2 0) (hG _ (by show w.heap.size ≤ w.heap.size + 1 + 1; omega))) (hk.cell (cell_of_heap b3 0) (hG _ (by show w.heap.size ≤ w1.heap.size; omega)))
    (hS2.keeps hm hk hG) ho0 (by omega) ht0 (by omega) hb0 hb'
def TMv (f : Mvf) (F : Nat → Prop) (w : World) (bf : Nat) (s' : List Nd) (e : Ending) (w' : World) : Prop := ∃ mv m, e = .returned (.tuple #[mv, .nilIface]) ∧ Keeps F w w' ∧ w.heap.size ≤ m ∧ m ≤ w'.heap.size ∧ PFor w' (fun b => F b ∨ (w.heap.size ≤ b ∧ b < m)) bf s' ∧ MoveOk m w' mv f
theorem TMv.move {f : Mvf} {F : Nat → Prop} {w : World} {bf : Nat} {s' : List Nd} {e : Ending} {w' : World} (h : TMv f F w bf s' e w') : TMove (fun _ _ => True) F w bf s' e w' := by
  obtain ⟨mv, m, rfl, hk, h1, h2, hf, hm⟩ := h
  exact ⟨mv, rfl, hk, hf.wider (fun b h => h.elim .inl (fun h => .inr h.1)), trivial⟩
end Go.Proofs.YtabogkonklplcaaGreatDoor
