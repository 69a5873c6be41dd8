import Derived.Test.YtabogkonklplcaaGreatDoorQ10
import Derived.Test.YtabogkonklplcaaGreatDoorQ09

namespace Go.Proofs.YtabogkonklplcaaGreatDoor
open Go.RowKit
set_option linter.unusedSimpArgs false
set_option linter.unusedVariables false
theorem collect_all {W : World} {F : Nat → Prop} {bf bn cap : Nat} {pn : List PN} {s : List Nd} (wf : WF s) {h : Nat → Nat} {B : Nat} (u : Up s h B) (hD : PForAt W F bf bn cap pn s) (k n : Nat) (hn : n < s.length) (hk : h n < k) :
    Calls Tryz.prog 89 #[.func (.func 138) #[] #[ptr (W.heap.size + 1), ptr W.heap.size]] ((W.alloc (.cells #[ptr bf] 91)).alloc (.cells #[.int .i64 (n : Int)] 3)) fun e w' =>
      ∃ a c, e = .returned (.slice a (allF s k n).length c) ∧ Below W.heap.size W w' ∧ w'.ownsRow 0 3 1 (.slice a (allF s k n).length c) (allF s k n).length (intsV (allF s k n)) ∧ (∀ b, (Value.slice a (allF s k n).length c).ownBlock = some b → W.heap.size ≤ b) := by
  have hl := all_length wf k n hn
  have hN := hD.narrow
  have hlt := hD.lt
  obtain ⟨wb, hwb⟩ : ∃ wb, (W.alloc (.cells #[ptr bf] 91)).alloc (.cells #[.int .i64 (n : Int)] 3) = wb := ⟨_, rfl⟩
  have hszb : wb.heap.size = W.heap.size + 2 := by rw [← hwb]; simp
  have hbb : Below W.heap.size W wb := by rw [← hwb]; exact ((Below.refl _ W).alloc (Nat.le_refl _) _).alloc (by simp) _
  have x1 : wb.heap[W.heap.size + 1]? = some (.cells #[.int .i64 (n : Int)] 3 (0, 0)) := by
    have := heap_alloc_new (W.alloc (.cells #[ptr bf] 91)) (.cells #[.int .i64 (n : Int)] 3)
    rw [hwb, World.size_alloc] at this
    exact this
  have x0 : wb.heap[W.heap.size]? = some (.cells #[ptr bf] 91 (0, 0)) := by
    rw [← hwb, Below.heap_alloc _ _ _ (by simp)]
    exact heap_alloc_new W _
  rw [hwb]
  refine (collect_any (gf := 138) (lb := #[ptr (W.heap.size + 1), ptr W.heap.size]) (enters_of Tryz.func138 (by kernel_rfl) rfl) (xs := allF s k n) (by unfold lots; omega) (w := wb)
    (fun w1 O hb hO => all1_ok wf u k n hn hk w1 O _ _ ((hN.below hbb).below hb) (fun b hbF => ⟨by have := hbF.2; have := hb.size; omega, fun e => by have := hO b e; have := hbF.2; omega⟩)
      ((hb.cell (p := ⟨W.heap.size + 1, 0, none⟩) (heap_lt x1)).trans (cell_of_heap x1 0)) ((hb.cell (p := ⟨W.heap.size, 0, none⟩) (heap_lt x0)).trans (cell_of_heap x0 0)) (fun e => by have := hO _ e; omega) (fun e => by have := hO _ e; omega))).mono ?_
  rintro e w' ⟨a, c, rfl, hr, hb, hg⟩
  exact ⟨a, c, rfl, hbb.trans (hb.mono (by omega)), hr, fun g e => by have := hg g e; omega⟩
end Go.Proofs.YtabogkonklplcaaGreatDoor

namespace Go.Proofs.YtabogkonklplcaaGreatDoor
open Go.RowKit
set_option linter.unusedSimpArgs false
set_option linter.unusedVariables false
def placeFault (s : List Nd) (n k : Int) : Int × Int := if isB s n = false then (n, 1) else if k < 0 ∨ (sizeAt s n.toNat : Int) < k then (n, 3) else (0, 0)
section
variable {w : World} {F : Nat → Prop} {bd bn cap : Nat} {rn : List RN} {rv : Value} {s : List Nd} {rs : List Sp}
abbrev three (w : World) (a0 a1 b0 b1 : Int) : World := ((w.alloc (.cells #[.int .i64 a0, .int .i64 a1] 37)).alloc (.cells #[.int .i64 b0, .int .i64 b1] 37)).alloc (.cells #[.int .i64 0, .int .i64 0] 32)
theorem three_below (w : World) (a0 a1 b0 b1 : Int) : Below w.heap.size w (three w a0 a1 b0 b1) := (((Below.refl _ w).alloc (Nat.le_refl _) _).alloc (by simp) _).alloc (by simp; omega) _
end
end Go.Proofs.YtabogkonklplcaaGreatDoor
