import Derived.Test.YtfcjkgglokpojaaGreatDoorW41
import Derived.Test.YtfcjkgglokpojaaGreatDoorW25

/- tree.Walk, margin.Walk. -/
namespace Go.Proofs.YtfcjkgglokpojaaGreatDoor
open Go.RowKit
set_option linter.unusedSimpArgs false
set_option linter.unusedVariables false

/-- A function that gives these numbers; what it leans on lies in P. -/
def Walker (w : World) (P : Nat → Prop) (f : Value) (xs : List Nat) : Prop :=
  ∃ b a c, f = .func (.func 88) #[] #[ptr b] ∧ w.heap[b]? = some (.cells #[.slice a xs.length c] 24 (0, 0)) ∧ w.ownsRow 0 3 1 (.slice a xs.length c) xs.length (intsV xs) ∧ P b ∧ (∀ g, (Value.slice a xs.length c).ownBlock = some g → P g)

theorem Walker.keeps {w w' : World} {P G : Nat → Prop} {f : Value} {xs : List Nat} (h : Walker w P f xs) (hk : Keeps G w w') (hG : ∀ b, P b → ¬ G b) : Walker w' P f xs := by
  obtain ⟨b, a, c, h1, h2, h3, h4, h5⟩ := h
  exact ⟨b, a, c, h1, by rw [hk.block b (heap_lt h2) (hG _ h4)]; exact h2, hk.row h3 (fun g e => hG _ (h5 g e)), h4, h5⟩

def WalkPost (w : World) (xs : List Nat) (e : Ending) (w' : World) : Prop := ∃ f, e = .returned (.tuple #[f, .nilIface]) ∧ Below w.heap.size w w' ∧ Walker w' (fun b => w.heap.size ≤ b ∧ b < w'.heap.size) f xs

section
variable {w : World} {F : Nat → Prop} {bf : Nat} {s : List Nd}

set_option maxHeartbeats 400000 in
theorem twalk_no (hD : PFor w F bf s) (n : Int) (h : isB s n = false) : Calls Tryz.prog 20 #[ptr bf, .int .i64 n] w fun e w' => e = .returned (.tuple #[.nilFunc, refusalV n 1]) ∧ Below w.heap.size w w' := by
  obtain ⟨bn, cap, pn, hD⟩ := hD
  have C := hid (find_no hD n h)
  clear hD h
  go_enter Tryz.func20, Tryz.ntmps20
  go_wp2_with (go_at_call 54; refine C.out.mono ?_; rintro e w1 ⟨rfl, rfl⟩)
  go_ret2
  exact ⟨rfl, Below.refl _ _⟩

set_option maxHeartbeats 1000000 in
theorem twalk_yes (wf : WF s) {h : Nat → Nat} {B : Nat} (u : Up s h B) (hD : PFor w F bf s) (k n : Nat) (hn : n < s.length) (hk : h n < k) : Calls Tryz.prog 20 #[ptr bf, .int .i64 n] w (WalkPost w (allF s k n)) := by
  obtain ⟨bn, cap, pn, hD⟩ := hD
  have C := hid (find_yes hD n (isB_of (by omega)))
  have hl := all_length wf k n hn
  have hN := hD.narrow
  have hlt := hD.lt
  have C2 := hid (all_any bf n w)
  obtain ⟨wb, hwb⟩ : ∃ wb, (w.alloc (.cells #[ptr bf] 59)).alloc (.cells #[.int .i64 (n : Int)] 3) = wb := ⟨_, rfl⟩
  have hszb : wb.heap.size = w.heap.size + 2 := by rw [← hwb]; simp
  have hbb : Below w.heap.size w wb := by rw [← hwb]; exact ((Below.refl _ w).alloc (Nat.le_refl _) _).alloc (by simp) _
  have x1 : wb.heap[w.heap.size + 1]? = some (.cells #[.int .i64 (n : Int)] 3 (0, 0)) := by
    have := heap_alloc_new (w.alloc (.cells #[ptr bf] 59)) (.cells #[.int .i64 (n : Int)] 3)
    rw [hwb, World.size_alloc] at this
    exact this
  have x0 : wb.heap[w.heap.size]? = some (.cells #[ptr bf] 59 (0, 0)) := by
    rw [← hwb, Below.heap_alloc _ _ _ (by simp)]
    exact heap_alloc_new w _
  rw [hwb] at C2
  have C3 := hid (collect_any (gf := 90) (lb := #[ptr (w.heap.size + 1), ptr w.heap.size]) (enters_of Tryz.func90 (by kernel_rfl) rfl) (xs := allF s k n) (by unfold lots; omega) (w := wb)
    (fun w1 O hb hO => all1_ok wf u k n hn hk w1 O _ _ ((hN.below hbb).below hb) (fun b hbF => ⟨by have := hbF.2; have := hb.size; omega, fun e => by have := hO b e; have := hbF.2; omega⟩)
      ((hb.cell (p := ⟨w.heap.size + 1, 0, none⟩) (heap_lt x1)).trans (cell_of_heap x1 0)) ((hb.cell (p := ⟨w.heap.size, 0, none⟩) (heap_lt x0)).trans (cell_of_heap x0 0)) (fun e => by have := hO _ e; omega) (fun e => by have := hO _ e; omega)))
  have HBB := hid hbb
  clear hD hN x0 x1 hbb u wf hk
  generalize allF s k n = L at C3 hl ⊢
  go_enter Tryz.func20, Tryz.ntmps20
  go_wp2_with (first
    | (go_at_call 54; refine C.out.mono ?_; rintro e w1 ⟨rfl, hw1⟩; subst hw1)
    | (go_at_call 57; refine C2.out.mono ?_; rintro e w1 ⟨rfl, hw1⟩; subst hw1)
    | (go_at_call 56; refine C3.out.mono ?_; rintro e w2 ⟨a2, c2, rfl, hr, hb, hg⟩; have HR := hid (And.intro hr (And.intro hb hg)); clear hr hb hg)
    | (go_at_call 55; refine (values_any _ _ _ _).mono ?_; rintro e w3 ⟨rfl, rfl⟩))
  go_ret2
  obtain ⟨hr, hb, hg⟩ := HR.out
  have hz := hb.size
  refine ⟨_, rfl, (HBB.out.trans (hb.mono (by omega))).alloc (by omega) _, w2.heap.size, a2, c2, rfl, heap_alloc_new w2 _, hr.alloc _, ?_, ?_⟩
  · simp; omega
  · intro g e
    have h1 := hg g e
    have h2 := (hr.lt g e).2
    simp; omega
end

theorem errOf_nil' (w : World) (hg : Glob w) : Calls Tryz.prog 21 #[.nilIface] w fun e w' => e = .returned .nilIface ∧ Below w.heap.size w w' := (errOf_nil 0 w hg).mono fun e w' ⟨h1, h2⟩ => ⟨by rw [h1]; simp [errV], h2⟩

set_option maxHeartbeats 400000 in
theorem mwalk_no {w : World} {F : Nat → Prop} {bx : Nat} {s : List Nd} (hg : GG w) (hP : PDoc w F bx s) (n : Int) (h : isB s n = false) :
    Calls Tryz.prog 10 #[ptr bx, .int .i64 n] w fun e w' => e = .returned (.tuple #[.nilFunc, errV n 1]) ∧ Below w.heap.size w w' := by
  obtain ⟨bf, hD⟩ := hP
  have C := hid (twalk_no hD.2.2.2 n h)
  have c0 : w.cell? ⟨bx, 0, none⟩ = some (ptr bf) := cell_of_heap hD.2.2.1 0
  have E := hid (fun w1 (hb : Below w.heap.size w w1) => errOf_P n 1 (by decide) w1 (hg.below hb).1)
  clear hD hg
  go_enter Tryz.func10, Tryz.ntmps10
  go_wp2_with first
    | (go_at_call 20; refine C.out.mono ?_; rintro e w1 ⟨rfl, hb1⟩; have E1 := hid (E.out w1 hb1))
    | (go_at_call 21; refine E1.out.mono ?_; rintro e w2 ⟨rfl, hb2⟩)
  go_ret2
  exact ⟨rfl, hb1.trans (hb2.mono hb1.size)⟩

set_option maxHeartbeats 400000 in
theorem mwalk_yes {w : World} {F : Nat → Prop} {bx : Nat} {s : List Nd} (hg : GG w) (hP : PDoc w F bx s) (wf : WF s) {h : Nat → Nat} {B : Nat} (u : Up s h B) (k n : Nat) (hn : n < s.length) (hk : h n < k) :
    Calls Tryz.prog 10 #[ptr bx, .int .i64 n] w (WalkPost w (allF s k n)) := by
  obtain ⟨bf, hD⟩ := hP
  have C := hid (twalk_yes wf u hD.2.2.2 k n hn hk)
  have c0 : w.cell? ⟨bx, 0, none⟩ = some (ptr bf) := cell_of_heap hD.2.2.1 0
  have E := hid (fun w1 (hb : Below w.heap.size w w1) => errOf_nil' w1 (hg.below hb).1)
  clear hD hg u wf hk
  go_enter Tryz.func10, Tryz.ntmps10
  go_wp2_with first
    | (go_at_call 20; refine C.out.mono ?_; rintro e w1 ⟨f, rfl, hb1, hW⟩; obtain ⟨wb, wa, wc, rfl, hW'⟩ := hW; have E1 := hid (E.out w1 hb1); have HW := hid hW'; clear hW')
    | (go_at_call 21; refine E1.out.mono ?_; rintro e w2 ⟨rfl, hb2⟩)
  go_ret2
  have hz := hb2.size
  refine ⟨_, rfl, hb1.trans (hb2.mono hb1.size), ?_⟩
  have hW : Walker w1 (fun b => w.heap.size ≤ b ∧ b < w2.heap.size) (.func (.func 88) #[] #[ptr wb]) (allF s k n) := ⟨wb, wa, wc, rfl, HW.out.1, HW.out.2.1, ⟨HW.out.2.2.1.1, by have := HW.out.2.2.1.2; omega⟩, fun g e => ⟨(HW.out.2.2.2 g e).1, by have := (HW.out.2.2.2 g e).2; omega⟩⟩
  exact hW.keeps (Keeps.of_below (F := fun _ => False) hb2) (fun _ _ e => e)

end Go.Proofs.YtfcjkgglokpojaaGreatDoor
