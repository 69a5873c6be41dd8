import Derived.Test.YtabogkonklplcaaGreatDoorB38

/- tree.holds. -/
namespace Go.Proofs.YtabogkonklplcaaGreatDoor
open Go.RowKit Go.Shelf
set_option linter.unusedSimpArgs false
set_option linter.unusedVariables false
attribute [local go_sem] Oper.semAt_some

set_option maxRecDepth 20000 in
set_option maxHeartbeats 4000000 in
theorem holds_any {s : List Nd} (wf : WF s) {h : Nat → Nat} {B : Nat} (u : Up s h B) {F : Nat → Prop} {bf bn cap : Nat} {pn : List PN} {w : World} (hD : PForAt w F bf bn cap pn s) (k n o : Nat) (hn : n < s.length) (hk : h n < k) :
    Calls Tryz.prog 173 #[ptr bf, .int .i64 n, .int .i64 o] w fun e w' => e = .returned (.bool (decide (o ∈ allF s k n))) ∧ Below w.heap.size w w' := by
  have HD := hid hD.narrow
  clear hD
  refine callsIn_wide.1 (callsIn_of_wp_marks (F := Fence.wide) (n := 1) Tryz.func173 rfl trivial ?_ rfl)
  simp only [Tryz.ntmps173, List.size_toArray, List.length_cons, List.length_nil, Nat.reduceAdd, Nat.reduceSub, Array.replicate_succ, Array.replicate_zero, List.push_toArray, List.append_toArray, List.nil_append, List.cons_append]
  have C : Hid (∀ (m : Nat) (W : World), CallsIn Fence.wide m _ _ _ _ _) := hid (fun m W => callsIn_wide.2 (all_any bf n W))
  gi_wp2_with (refine ⟨trivial, ?_⟩; gi_at_call 90; refine (C.out _ _).mono ?_; rintro e w3 ⟨rfl, rfl⟩)
  obtain ⟨wb, hwb⟩ : ∃ wb, (((w.alloc (.cells #[.int .i64 (o : Int)] 3)).alloc (.cells #[.bool false] 4)).alloc (.cells #[ptr bf] 91)).alloc (.cells #[.int .i64 (n : Int)] 3) = wb := ⟨_, rfl⟩
  have hszb : wb.heap.size = w.heap.size + 4 := by rw [← hwb]; simp
  have hbb : Below w.heap.size w wb := by rw [← hwb]; exact ((((Below.refl _ w).alloc (Nat.le_refl _) _).alloc (by simp) _).alloc (by simp; omega) _).alloc (by simp; omega) _
  have x0 : wb.heap[w.heap.size]? = some (.cells #[.int .i64 (o : Int)] 3 (0, 0)) := by
    rw [← hwb, Below.heap_alloc _ _ _ (by simp; omega), Below.heap_alloc _ _ _ (by simp; omega), Below.heap_alloc _ _ _ (by simp)]
    exact heap_alloc_new w _
  have x1 : wb.heap[w.heap.size + 1]? = some (.cells #[.bool false] 4 (0, 0)) := by
    rw [← hwb, Below.heap_alloc _ _ _ (by simp), Below.heap_alloc _ _ _ (by simp)]
    have := heap_alloc_new (w.alloc (.cells #[.int .i64 (o : Int)] 3)) (.cells #[.bool false] 4)
    rwa [World.size_alloc] at this
  have x2 : wb.heap[w.heap.size + 2]? = some (.cells #[ptr bf] 91 (0, 0)) := by
    rw [← hwb, Below.heap_alloc _ _ _ (by simp)]
    have := heap_alloc_new ((w.alloc (.cells #[.int .i64 (o : Int)] 3)).alloc (.cells #[.bool false] 4)) (.cells #[ptr bf] 91)
    rwa [World.size_alloc, World.size_alloc] at this
  have x3 : wb.heap[w.heap.size + 3]? = some (.cells #[.int .i64 (n : Int)] 3 (0, 0)) := by
    rw [← hwb]
    have := heap_alloc_new (((w.alloc (.cells #[.int .i64 (o : Int)] 3)).alloc (.cells #[.bool false] 4)).alloc (.cells #[ptr bf] 91)) (.cells #[.int .i64 (n : Int)] 3)
    rwa [World.size_alloc, World.size_alloc, World.size_alloc] at this
  rw [hwb]
  refine range_mine (gf := 138) (lb := #[ptr (w.heap.size + 3), ptr (w.heap.size + 2)]) rfl (enters_of Tryz.func138 (by kernel_rfl) rfl) rfl (O := fun b => b = w.heap.size + 1) (fun b e => by omega)
    (all1_ok wf u k n hn hk wb _ _ _ (HD.out.below hbb) (fun b hb => ⟨by have := hb.2; omega, by have := hb.2; omega⟩) (cell_of_heap x3 0) (cell_of_heap x2 0) (by omega) (by omega))
    (fun pre O3 W => O3 = (fun b => b = w.heap.size + 1) ∧ o ∉ pre ∧ W.heap[w.heap.size + 1]? = some (.cells #[.bool false] 4 (0, 0)) ∧ Stp (fun b => b = w.heap.size + 1) O3 wb W)
    (fun pre O3 W => O3 = (fun b => b = w.heap.size + 1) ∧ o ∈ pre ∧ W.heap[w.heap.size + 1]? = some (.cells #[.bool true] 4 (0, 0)) ∧ Stp (fun b => b = w.heap.size + 1) O3 wb W) ?mI ?mIx ?h0
    (fun y => Act.mk #[ptr bf, Value.int IntKind.i64 n, Value.int IntKind.i64 o, undef, undef,
          Value.pointer (some { block := w.heap.size, off := 0 }),
          Value.pointer (some { block := w.heap.size + 1, off := 0 }), Value.int IntKind.i64 y, ptr bf, Value.int IntKind.i64 n,
          Value.func (Fn.func 138) #[] #[ptr (w.heap.size + 1 + 1 + 1), ptr (w.heap.size + 1 + 1)], Value.int IntKind.i64 y, undef, undef,
          undef] []) ?assign ?body ?done ?stop
  case mI =>
    rintro pre O3 X Y ⟨rfl, h1, h2, h3⟩ hk
    exact ⟨rfl, h1, by rw [hk.block _ (heap_lt h2) (fun e => e.1 rfl)]; exact h2, stp_mine (Nat.le_refl _) h3 hk⟩
  case mIx =>
    rintro pre O3 X Y ⟨rfl, h1, h2, h3⟩ hk
    exact ⟨rfl, h1, by rw [hk.block _ (heap_lt h2) (fun e => e.1 rfl)]; exact h2, stp_mine (Nat.le_refl _) h3 hk⟩
  case h0 => exact ⟨rfl, by simp, x1, Stp.refl (fun b e => by omega)⟩
  case assign =>
    intro m l' y W K hK
    dsimp only [encN]
    gi_wp2
    exact hK
  case body =>
    rintro m l' pre y O3 W hpre hO3 ⟨rfl, h1, h2, h3⟩
    have f0 : W.cell? ⟨w.heap.size, 0, none⟩ = some (.int .i64 (o : Int)) := h3.keeps.cell (cell_of_heap x0 0) (by simp)
    have f1 : W.cell? ⟨w.heap.size + 1, 0, none⟩ = some (.bool false) := cell_of_heap h2 0
    have f2 := frozen_of_heap h2 0
    have H3 := hid h3
    have H2 := hid h2
    have H1 := hid h1
    clear h3 h2 h1 x0 x1 x2 x3 hpre
    by_cases hyo : y = o
    · subst hyo
      gi_wp2
      have hs : Stp (fun b => b = w.heap.size + 1) (fun b => b = w.heap.size + 1) W (W.setCell ⟨w.heap.size + 1, 0, none⟩ (.bool true)) :=
        ⟨(Keeps.refl (fun b => b = w.heap.size + 1) W).setCell (p := ⟨w.heap.size + 1, 0, none⟩) (.inl rfl) _, fun b e => .inl e, fun b e => by have := hO3 b e; simpa [World.setCell] using this⟩
      exact ⟨_, hs, rfl, by simp, by rw [heap_setCell_same W _ 0 _ _ _ H2.out]; rfl, H3.out.trans hs⟩
    · have hyI : ((y : Int) == (o : Int)) = false := by simp; omega
      have hyJ : ¬ (y : Int) = (o : Int) := by omega
      gi_wp2
      exact ⟨_, Stp.refl hO3, rfl, by simp [H1.out]; omega, H2.out, H3.out⟩
  case done =>
    rintro O5 W st5 hn5 ⟨rfl, h1, h2, h3⟩ hD5
    have f1 : W.cell? ⟨w.heap.size + 1, 0, none⟩ = some (.bool false) := cell_of_heap h2 0
    have f2 := frozen_of_heap h2 0
    have H5 := hid (And.intro st5 (And.intro h1 (And.intro h2 hD5)))
    clear st5 hn5 h1 h2 h3 hD5 x0 x1 x2 x3
    gi_wp2
    obtain ⟨st5, h1, h2, hD5⟩ := H5.out
    refine leaves_marks [wb.heap.size] _ (by simp) (fun D hm => ?_) (fun w' hk' => ⟨.bool false, ?_, ?_, ?_⟩)
    · obtain rfl : D = wb.heap.size := by simpa using hm
      rw [Below.heap_setCell _ _ _ _ (by simp; omega)]
      exact hD5
    · have hh := heap_setCell_same W _ 0 _ _ (.bool false) h2
      have hc : w'.cell? ⟨w.heap.size + 1, 0, none⟩ = some (.bool false) := hk'.cell (cell_of_heap hh 0) (by simp; omega)
      simp [results, Tryz.f173, go_sem, hc]
    · rw [decide_eq_false h1]
    · have k1 : Keeps (fun _ => False) w wb := Keeps.of_below hbb
      have k2 : Keeps (fun _ => False) w W := k1.trans (st5.keeps.mono (fun b _ e => .inr (by omega)))
      exact ((k2.setCell (p := ⟨w.heap.size + 1, 0, none⟩) (.inr (by simp)) _).trans (hk'.mono (fun b _ e => .inr (by simp at e; omega)))).below
  case stop =>
    rintro O5 pre W hpre st5 hn5 ⟨rfl, h1, h2, h3⟩ hD5
    have H5 := hid (And.intro st5 (And.intro h1 (And.intro h2 (And.intro hD5 hpre))))
    clear st5 hn5 h1 h2 h3 hD5 x0 x1 x2 x3 hpre
    gi_wp2
    obtain ⟨st5, h1, h2, hD5, hpre⟩ := H5.out
    refine leaves_marks [wb.heap.size] _ (by simp) (fun D hm => ?_) (fun w' hk' => ⟨.bool true, ?_, ?_, ?_⟩)
    · obtain rfl : D = wb.heap.size := by simpa using hm
      exact hD5
    · have hc : w'.cell? ⟨w.heap.size + 1, 0, none⟩ = some (.bool true) := hk'.cell (cell_of_heap h2 0) (by simp; omega)
      simp [results, Tryz.f173, go_sem, hc]
    · rw [decide_eq_true (hpre.subset h1)]
    · have k1 : Keeps (fun _ => False) w wb := Keeps.of_below hbb
      have k2 : Keeps (fun _ => False) w W := k1.trans (st5.keeps.mono (fun b _ e => .inr (by omega)))
      exact (k2.trans (hk'.mono (fun b _ e => .inr (by simp at e; omega)))).below

end Go.Proofs.YtabogkonklplcaaGreatDoor
