import Derived.Test.YtabogkonklplcaaGreatDoorV26
import Derived.Test.YtabogkonklplcaaGreatDoorV21
import Derived.Test.YtabogkonklplcaaGreatDoorV28

namespace Go.Proofs.YtabogkonklplcaaGreatDoor
open Go.RowKit
set_option linter.unusedSimpArgs false
set_option linter.unusedVariables false
structure Wi (w : World) (W : Nat) (a b c d p0 p1 : Int) : Prop where
  s : w.heap[W]? = some (.cells #[.int .i64 a, .int .i64 b, .int .i64 c, .int .i64 d] 79 (0, 0))
  p : w.heap[W + 1]? = some (.cells #[.int .i64 p0, .int .i64 p1] 37 (0, 0))
abbrev wi0 (w : World) (a b c d p0 p1 : Int) : World := (w.alloc (.cells #[.int .i64 a, .int .i64 b, .int .i64 c, .int .i64 d] 79)).alloc (.cells #[.int .i64 p0, .int .i64 p1] 37)
theorem wi0_below (w : World) (a b c d p0 p1 : Int) : Below w.heap.size w (wi0 w a b c d p0 p1) := ((Below.refl _ w).alloc (Nat.le_refl _) _).alloc (by simp) _
theorem wi0_at (w : World) (a b c d p0 p1 : Int) : Wi (wi0 w a b c d p0 p1) w.heap.size a b c d p0 p1 := by
  constructor
  · rw [Below.heap_alloc _ _ _ (by simp), heap_alloc_new]
  · have := heap_alloc_new (w.alloc (.cells #[.int .i64 a, .int .i64 b, .int .i64 c, .int .i64 d] 79)) (.cells #[.int .i64 p0, .int .i64 p1] 37)
    simpa using this
theorem Wi.below {w w' : World} {W : Nat} {a b c d p0 p1 : Int} (h : Wi w W a b c d p0 p1) (hb : Below w.heap.size w w') : Wi w' W a b c d p0 p1 := ⟨(hb.block _ (heap_lt h.s)).trans h.s, (hb.block _ (heap_lt h.p)).trans h.p⟩
theorem Wi.cells {w : World} {W : Nat} {a b c d p0 p1 : Int} (h : Wi w W a b c d p0 p1) : w.cell? ⟨W, 0, none⟩ = some (.int .i64 a) ∧ w.cell? ⟨W, 1, none⟩ = some (.int .i64 b) ∧ w.cell? ⟨W, 2, none⟩ = some (.int .i64 c) ∧ w.cell? ⟨W, 3, none⟩ = some (.int .i64 d) ∧ w.cell? ⟨W + 1, 0, none⟩ = some (.int .i64 p0) ∧ w.cell? ⟨W + 1, 1, none⟩ = some (.int .i64 p1) :=
  ⟨cell_of_heap h.s 0, cell_of_heap h.s 1, cell_of_heap h.s 2, cell_of_heap h.s 3, cell_of_heap h.p 0, cell_of_heap h.p 1⟩
section
variable {w : World} {F : Nat → Prop} {bx bf bl : Nat} {sv : Value} {s : List Nd} {rs : List Sp}
theorem PDocAt.spanAt (hD : PDocAt w F bx bf bl sv ⟨s, rs⟩) {r g c n : Nat} {x : Sp} (hx : rs[r]? = some x) (hv : sv = .slice (some ⟨g, 0, none⟩) n c) : w.cell? ⟨g, r * 4, none⟩ = some (.int .i64 x.a) ∧ w.cell? ⟨g, r * 4 + 1, none⟩ = some (.int .i64 x.b) ∧ w.cell? ⟨g, r * 4 + 2, none⟩ = some (.int .i64 x.c) ∧ w.cell? ⟨g, r * 4 + 3, none⟩ = some (.int .i64 x.d) ∧ (∀ o, w.frozen? ⟨g, o, none⟩ = false) := by
  obtain ⟨g', c', hv', _, h0, h1, h2, h3⟩ := hD.spanCells hx
  rw [hv] at hv'
  cases hv'
  have hrow := hD.spans
  rw [hv] at hrow
  exact ⟨h0, h1, h2, h3, fun o => hrow.frozenAt o⟩
theorem PDocAt.grown {w0 : World} {st : St} (h : PDocAt w0 F bx bf bl sv st) (w : World) : PDocAt w0 (grow F w) bx bf bl sv st :=
  ⟨.inl h.Fx, h.Hx, h.doc, .inl h.Fl, h.Hl, h.ne, h.list, h.spans, fun b e => ⟨.inl (h.apart b e).1, (h.apart b e).2⟩, h.nodes.wider (fun b hb => ⟨.inl hb.1, hb.2⟩)⟩
theorem PDocAt.setAll (h : PDocAt w F bx bf bl sv ⟨s, rs⟩) {q g c : Nat} (hrv : sv = .slice (some ⟨g, 0, none⟩) rs.length c) {r : Sp} (hr : rs[q]? = some r) (v0 v1 v2 v3 : Int) :
    PDocAt ((((w.setCell ⟨g, q * 4, none⟩ (.int .i64 v0)).setCell ⟨g, q * 4 + 1, none⟩ (.int .i64 v1)).setCell ⟨g, q * 4 + 2, none⟩ (.int .i64 v2)).setCell ⟨g, q * 4 + 3, none⟩ (.int .i64 v3)) F bx bf bl sv ⟨s, rs.set q ⟨v0, v1, v2, v3⟩⟩ := by
  have hq := (List.getElem?_eq_some_iff.1 hr).1
  have hrow := h.spans
  simp only at hrow
  rw [hrv] at hrow
  have d0 := spRow_set hrow hr (r' := ⟨v0, r.b, r.c, r.d⟩) 0 (by omega) (.int .i64 v0) rfl
  have d1 := spRow_set d0 (List.getElem?_set_self hq) (r' := ⟨v0, v1, r.c, r.d⟩) 1 (by omega) (.int .i64 v1) rfl
  rw [List.set_set] at d1
  have d2 := spRow_set d1 (List.getElem?_set_self hq) (r' := ⟨v0, v1, v2, r.d⟩) 2 (by omega) (.int .i64 v2) rfl
  rw [List.set_set] at d2
  have d3 := spRow_set d2 (List.getElem?_set_self hq) (r' := ⟨v0, v1, v2, v3⟩) 3 (by omega) (.int .i64 v3) rfl
  rw [List.set_set] at d3
  have hg : sv.ownBlock = some g := by rw [hrv]; rfl
  refine h.moved (rs' := rs.set q ⟨v0, v1, v2, v3⟩) ((((Keeps.refl (fun b => sv.ownBlock = some b) w).setCell (p := ⟨g, q * 4, none⟩) (.inl hg) (.int .i64 v0)).setCell (p := ⟨g, q * 4 + 1, none⟩) (.inl hg) (.int .i64 v1)).setCell (p := ⟨g, q * 4 + 2, none⟩) (.inl hg) (.int .i64 v2) |>.setCell (p := ⟨g, q * 4 + 3, none⟩) (.inl hg) (.int .i64 v3)) ?_
  rw [hrv, List.length_set]
  exact d3
set_option maxRecDepth 20000 in
set_option maxHeartbeats 1000000 in
theorem lset_roots (hD : PDocAt w F bx bf bl sv ⟨s, rs⟩) (r : Nat) (x : Sp) (hx : rs[r]? = some x) (a b c d p0 p1 : Int) (y : Int)
    (hC : ∀ W, Below w.heap.size w W → Calls Tryz.prog 62 #[ptr bf, .agg #[.int .i64 a, .int .i64 b], .agg #[.int .i64 c, .int .i64 d]] W fun e w' => e = .returned (.tuple #[.int .i64 0, refusalV y 9]) ∧ Below W.heap.size W w') :
    Calls Tryz.prog 111 #[ptr bl, .int .i64 (r : Int), spV ⟨a, b, c, d⟩, .agg #[.int .i64 p0, .int .i64 p1]] w fun e w' => e = .returned .nilIface ∧ Keeps F w w' ∧ PDocAt w' (grow F w) bx bf bl sv ⟨s, rs.set r ⟨p0, p1, p0, p1⟩⟩ := by
  have hr : r < rs.length := (List.getElem?_eq_some_iff.1 hx).1
  have c0 : w.cell? ⟨bl, 0, none⟩ = some (ptr bf) := cell_of_heap hD.list 0
  have c1 : w.cell? ⟨bl, 1, none⟩ = some sv := cell_of_heap hD.list 1
  have hll := heap_lt hD.list
  obtain ⟨g, cp, hsv, hgl, e0, e1, e2, e3⟩ := hD.spanCells hx
  rw [hsv] at c1
  have HB := hid (wi0_below w a b c d p0 p1)
  have hwi := wi0_at w a b c d p0 p1
  obtain ⟨y0, y1, y2, y3, y4, y5⟩ := hwi.cells
  have C1 := hid (hC _ HB.out.drew)
  have HWI := hid hwi
  have HSV := hid hsv
  have HX := hid hx
  have HD := hid hD
  have hbg : ¬ bl = g := fun e => (hD.apart g (by rw [hsv]; rfl)).2.2.2 e.symm
  skip
  clear hD hC hwi hsv hx
  go_enter Tryz.func111, Tryz.ntmps111
  go_wp2
  go_region_held3 (fun w' => w'.cell? ⟨bl, 0, none⟩ = some (ptr bf) ∧ w'.cell? ⟨w.heap.size, 0, none⟩ = some (.int .i64 a) ∧ w'.cell? ⟨w.heap.size, 1, none⟩ = some (.int .i64 b) ∧ w'.cell? ⟨w.heap.size, 2, none⟩ = some (.int .i64 c) ∧ w'.cell? ⟨w.heap.size, 3, none⟩ = some (.int .i64 d)) (first | exact KP1.out | go_keep) ((
    go_at_call 62
    refine C1.out.mono ?_
    rintro e w1 ⟨rfl, hb1⟩
    have hB1 : Below (wi0 w a b c d p0 p1).heap.size (wi0 w a b c d p0 p1) w1 := ⟨hb1.os, hb1.tape, hb1.output, hb1.size, hb1.block⟩
    have hw1 := HWI.out.below hB1
    have HB1 := hid (HB.out.trans (hB1.mono HB.out.size))
    obtain ⟨z0, z1, z2, z3, z4, z5⟩ := hw1.cells
    have KP1 := hid (And.intro ((HB1.out.cell (p := ⟨bl, 0, none⟩) hll).trans c0) (And.intro z0 (And.intro z1 (And.intro z2 z3))))
    have HW1 := hid hw1
    clear hb1 hB1 hw1 z0 z1 z2 z3 z4 z5))
  all_goals
   go_wp2_with (
               go_at_call 22; refine (is_refYes y 9 9 (fun w => by kernel_rfl) _).mono ?_; rintro e w2 ⟨rfl, hb2⟩
               have HB2 := hid (HB1.out.trans (hb2.mono HB1.out.size))
               have hw2x := HW1.out.below hb2
               obtain ⟨z0, z1, z2, z3, z4, z5⟩ := hw2x.cells
               have hpl := heap_lt hw2x.p
               obtain ⟨q0, q1, q2, q3, qf⟩ := (HD.out.below HB2.out).spanAt HX.out HSV.out
               have qf0 := qf (r * 4)
               have qf1 := qf (r * 4 + 1)
               have qf2 := qf (r * 4 + 2)
               have qf3 := qf (r * 4 + 3)
               have k1 := (HB2.out.cell (p := ⟨bl, 1, none⟩) hll).trans c1
               skip
               clear hb2 hw2x qf)
   go_region
   go_wp2
   go_ret
   have hk : Keeps F w w2 := Keeps.of_below HB2.out
   have hFg : F g := (HD.out.apart g (by rw [HSV.out]; rfl)).1
   have hd := ((HD.out.below HB2.out).setAll HSV.out HX.out p0 p1 p0 p1)
   exact ⟨rfl, (((((hk.setCell (p := ⟨g, r * 4, none⟩) (.inl hFg) _).setCell (p := ⟨g, r * 4 + 1, none⟩) (.inl hFg) _).setCell (p := ⟨g, r * 4 + 2, none⟩) (.inl hFg) _).setCell (p := ⟨g, r * 4 + 3, none⟩) (.inl hFg) _).drew), (hd.below (below_drewN (Below.refl _ _) 1)).grown w⟩
set_option maxRecDepth 20000 in
set_option maxHeartbeats 1000000 in
theorem lset_gt (hD : PDocAt w F bx bf bl sv ⟨s, rs⟩) (r : Nat) (x : Sp) (hx : rs[r]? = some x) (a b c d p0 p1 : Int) (o : Int) (ho : 0 < o)
    (hC : ∀ W, Below w.heap.size w W → Calls Tryz.prog 62 #[ptr bf, .agg #[.int .i64 a, .int .i64 b], .agg #[.int .i64 c, .int .i64 d]] W fun e w' => e = .returned (.tuple #[.int .i64 o, .nilIface]) ∧ Below W.heap.size W w') :
    Calls Tryz.prog 111 #[ptr bl, .int .i64 (r : Int), spV ⟨a, b, c, d⟩, .agg #[.int .i64 p0, .int .i64 p1]] w fun e w' => e = .returned .nilIface ∧ Keeps F w w' ∧ PDocAt w' (grow F w) bx bf bl sv ⟨s, rs.set r ⟨p0, p1, p0, p1⟩⟩ := by
  have hr : r < rs.length := (List.getElem?_eq_some_iff.1 hx).1
  have c0 : w.cell? ⟨bl, 0, none⟩ = some (ptr bf) := cell_of_heap hD.list 0
  have c1 : w.cell? ⟨bl, 1, none⟩ = some sv := cell_of_heap hD.list 1
  have hll := heap_lt hD.list
  obtain ⟨g, cp, hsv, hgl, e0, e1, e2, e3⟩ := hD.spanCells hx
  rw [hsv] at c1
  have HB := hid (wi0_below w a b c d p0 p1)
  have hwi := wi0_at w a b c d p0 p1
  obtain ⟨y0, y1, y2, y3, y4, y5⟩ := hwi.cells
  have C1 := hid (hC _ HB.out.drew)
  have HWI := hid hwi
  have HSV := hid hsv
  have HX := hid hx
  have HD := hid hD
  have hbg : ¬ bl = g := fun e => (hD.apart g (by rw [hsv]; rfl)).2.2.2 e.symm
  have ho1 : decide (0 < o) = true := decide_eq_true ho
  skip
  clear hD hC hwi hsv hx
  go_enter Tryz.func111, Tryz.ntmps111
  go_wp2
  go_region_held3 (fun w' => w'.cell? ⟨bl, 0, none⟩ = some (ptr bf) ∧ w'.cell? ⟨w.heap.size, 0, none⟩ = some (.int .i64 a) ∧ w'.cell? ⟨w.heap.size, 1, none⟩ = some (.int .i64 b) ∧ w'.cell? ⟨w.heap.size, 2, none⟩ = some (.int .i64 c) ∧ w'.cell? ⟨w.heap.size, 3, none⟩ = some (.int .i64 d)) (first | exact KP1.out | go_keep) ((
    go_at_call 62
    refine C1.out.mono ?_
    rintro e w1 ⟨rfl, hb1⟩
    have hB1 : Below (wi0 w a b c d p0 p1).heap.size (wi0 w a b c d p0 p1) w1 := ⟨hb1.os, hb1.tape, hb1.output, hb1.size, hb1.block⟩
    have hw1 := HWI.out.below hB1
    have HB1 := hid (HB.out.trans (hB1.mono HB.out.size))
    obtain ⟨z0, z1, z2, z3, z4, z5⟩ := hw1.cells
    have KP1 := hid (And.intro ((HB1.out.cell (p := ⟨bl, 0, none⟩) hll).trans c0) (And.intro z0 (And.intro z1 (And.intro z2 z3))))
    have HW1 := hid hw1
    clear hb1 hB1 hw1 z0 z1 z2 z3 z4 z5))
  all_goals
   go_wp2_with (
               go_at_call 22; refine (is_nil 9 _).mono ?_; rintro e w2' ⟨rfl, hw2⟩; obtain ⟨w2, hw2'⟩ : ∃ w2, w2' = w2 := ⟨_, rfl⟩; have hb2 : Below w1.heap.size w1 w2 := by rw [← hw2', hw2]; exact Below.refl _ _
               have HB2 := hid (HB1.out.trans (hb2.mono HB1.out.size))
               have hw2x := HW1.out.below hb2
               obtain ⟨z0, z1, z2, z3, z4, z5⟩ := hw2x.cells
               have hpl := heap_lt hw2x.p
               obtain ⟨q0, q1, q2, q3, qf⟩ := (HD.out.below HB2.out).spanAt HX.out HSV.out
               have qf0 := qf (r * 4)
               have qf1 := qf (r * 4 + 1)
               have qf2 := qf (r * 4 + 2)
               have qf3 := qf (r * 4 + 3)
               have k1 := (HB2.out.cell (p := ⟨bl, 1, none⟩) hll).trans c1
               rw [hw2']
               clear hb2 hw2x qf hw2 hw2')
   go_region
   go_wp2
   go_ret
   have hk : Keeps F w w2 := Keeps.of_below HB2.out
   have hFg : F g := (HD.out.apart g (by rw [HSV.out]; rfl)).1
   have hd := ((HD.out.below HB2.out).setAll HSV.out HX.out p0 p1 p0 p1)
   exact ⟨rfl, (((((hk.setCell (p := ⟨g, r * 4, none⟩) (.inl hFg) _).setCell (p := ⟨g, r * 4 + 1, none⟩) (.inl hFg) _).setCell (p := ⟨g, r * 4 + 2, none⟩) (.inl hFg) _).setCell (p := ⟨g, r * 4 + 3, none⟩) (.inl hFg) _).drew), (hd.below (below_drewN (Below.refl _ _) 1)).grown w⟩
set_option maxRecDepth 20000 in
set_option maxHeartbeats 1000000 in
theorem lset_le (hD : PDocAt w F bx bf bl sv ⟨s, rs⟩) (r : Nat) (x : Sp) (hx : rs[r]? = some x) (a b c d p0 p1 : Int) (o : Int) (ho : ¬ 0 < o)
    (hC : ∀ W, Below w.heap.size w W → Calls Tryz.prog 62 #[ptr bf, .agg #[.int .i64 a, .int .i64 b], .agg #[.int .i64 c, .int .i64 d]] W fun e w' => e = .returned (.tuple #[.int .i64 o, .nilIface]) ∧ Below W.heap.size W w') :
    Calls Tryz.prog 111 #[ptr bl, .int .i64 (r : Int), spV ⟨a, b, c, d⟩, .agg #[.int .i64 p0, .int .i64 p1]] w fun e w' => e = .returned .nilIface ∧ Keeps F w w' ∧ PDocAt w' (grow F w) bx bf bl sv ⟨s, rs.set r ⟨a, b, c, d⟩⟩ := by
  have hr : r < rs.length := (List.getElem?_eq_some_iff.1 hx).1
  have c0 : w.cell? ⟨bl, 0, none⟩ = some (ptr bf) := cell_of_heap hD.list 0
  have c1 : w.cell? ⟨bl, 1, none⟩ = some sv := cell_of_heap hD.list 1
  have hll := heap_lt hD.list
  obtain ⟨g, cp, hsv, hgl, e0, e1, e2, e3⟩ := hD.spanCells hx
  rw [hsv] at c1
  have HB := hid (wi0_below w a b c d p0 p1)
  have hwi := wi0_at w a b c d p0 p1
  obtain ⟨y0, y1, y2, y3, y4, y5⟩ := hwi.cells
  have C1 := hid (hC _ HB.out.drew)
  have HWI := hid hwi
  have HSV := hid hsv
  have HX := hid hx
  have HD := hid hD
  have hbg : ¬ bl = g := fun e => (hD.apart g (by rw [hsv]; rfl)).2.2.2 e.symm
  have ho1 : decide (0 < o) = false := decide_eq_false ho
  skip
  clear hD hC hwi hsv hx
  go_enter Tryz.func111, Tryz.ntmps111
  go_wp2
  go_region_held3 (fun w' => w'.cell? ⟨bl, 0, none⟩ = some (ptr bf) ∧ w'.cell? ⟨w.heap.size, 0, none⟩ = some (.int .i64 a) ∧ w'.cell? ⟨w.heap.size, 1, none⟩ = some (.int .i64 b) ∧ w'.cell? ⟨w.heap.size, 2, none⟩ = some (.int .i64 c) ∧ w'.cell? ⟨w.heap.size, 3, none⟩ = some (.int .i64 d)) (first | exact KP1.out | go_keep) ((
    go_at_call 62
    refine C1.out.mono ?_
    rintro e w1 ⟨rfl, hb1⟩
    have hB1 : Below (wi0 w a b c d p0 p1).heap.size (wi0 w a b c d p0 p1) w1 := ⟨hb1.os, hb1.tape, hb1.output, hb1.size, hb1.block⟩
    have hw1 := HWI.out.below hB1
    have HB1 := hid (HB.out.trans (hB1.mono HB.out.size))
    obtain ⟨z0, z1, z2, z3, z4, z5⟩ := hw1.cells
    have KP1 := hid (And.intro ((HB1.out.cell (p := ⟨bl, 0, none⟩) hll).trans c0) (And.intro z0 (And.intro z1 (And.intro z2 z3))))
    have HW1 := hid hw1
    clear hb1 hB1 hw1 z0 z1 z2 z3 z4 z5))
  all_goals
   go_wp2_with (
               go_at_call 22; refine (is_nil 9 _).mono ?_; rintro e w2' ⟨rfl, hw2⟩; obtain ⟨w2, hw2'⟩ : ∃ w2, w2' = w2 := ⟨_, rfl⟩; have hb2 : Below w1.heap.size w1 w2 := by rw [← hw2', hw2]; exact Below.refl _ _
               have HB2 := hid (HB1.out.trans (hb2.mono HB1.out.size))
               have hw2x := HW1.out.below hb2
               obtain ⟨z0, z1, z2, z3, z4, z5⟩ := hw2x.cells
               have hpl := heap_lt hw2x.p
               obtain ⟨q0, q1, q2, q3, qf⟩ := (HD.out.below HB2.out).spanAt HX.out HSV.out
               have qf0 := qf (r * 4)
               have qf1 := qf (r * 4 + 1)
               have qf2 := qf (r * 4 + 2)
               have qf3 := qf (r * 4 + 3)
               have k1 := (HB2.out.cell (p := ⟨bl, 1, none⟩) hll).trans c1
               rw [hw2']
               clear hb2 hw2x qf hw2 hw2')
   go_region
   go_wp2
   go_ret
   have hk : Keeps F w w2 := Keeps.of_below HB2.out
   have hFg : F g := (HD.out.apart g (by rw [HSV.out]; rfl)).1
   have hd := ((HD.out.below HB2.out).setAll HSV.out HX.out a b c d)
   exact ⟨rfl, (((((hk.setCell (p := ⟨g, r * 4, none⟩) (.inl hFg) _).setCell (p := ⟨g, r * 4 + 1, none⟩) (.inl hFg) _).setCell (p := ⟨g, r * 4 + 2, none⟩) (.inl hFg) _).setCell (p := ⟨g, r * 4 + 3, none⟩) (.inl hFg) _).drew), (hd.below (below_drewN (Below.refl _ _) 1)).grown w⟩
end
end Go.Proofs.YtabogkonklplcaaGreatDoor

namespace Go.Proofs.YtabogkonklplcaaGreatDoor
open Go.RowKit
set_option linter.unusedSimpArgs false
set_option linter.unusedVariables false
theorem PDocAt.widen {w : World} {F G : Nat → Prop} {bx bf bl : Nat} {sv : Value} {st : St} (h : PDocAt w F bx bf bl sv st) (hG : ∀ b, F b → G b) : PDocAt w G bx bf bl sv st :=
  ⟨hG _ h.Fx, h.Hx, h.doc, hG _ h.Fl, h.Hl, h.ne, h.list, h.spans, fun b e => ⟨hG _ (h.apart b e).1, (h.apart b e).2⟩, h.nodes.wider (fun b hb => ⟨hG _ hb.1, hb.2⟩)⟩
section
variable {w : World} {F : Nat → Prop} {bx bf bl : Nat} {sv : Value} {s : List Nd} {rs : List Sp}
set_option maxRecDepth 20000 in
set_option maxHeartbeats 1000000 in
theorem lstart_of (hD : PDocAt w F bx bf bl sv ⟨s, rs⟩) (r : Nat) (x : Sp) (hx : rs[r]? = some x) (p0 p1 : Int) (v : Value) (hv : v = .nilIface ∨ ∃ t u, v = .iface t u) {Q : World → World → Prop}
    (hS : ∀ W, Below w.heap.size w W → Calls Tryz.prog 111 #[ptr bl, .int .i64 (r : Int), spV ⟨p0, p1, x.c, x.d⟩, .agg #[.int .i64 p0, .int .i64 p1]] W fun e w' => e = .returned v ∧ Q W w') :
    Calls Tryz.prog 65 #[ptr bl, .int .i64 (r : Int), .agg #[.int .i64 p0, .int .i64 p1]] w fun e w' => e = .returned v ∧ ∃ W, Below w.heap.size w W ∧ Q W w' := by
  have C := hid (fun W (hb : Below w.heap.size w W) => lspan_ok (hD.below hb) r x hx)
  have HB := hid (show Below w.heap.size w (w.alloc (.cells #[.int .i64 p0, .int .i64 p1] 37)) from (Below.refl _ w).alloc (Nat.le_refl _) _)
  have hp := heap_alloc_new w (.cells #[.int .i64 p0, .int .i64 p1] 37)
  have HP := hid hp
  have HS := hid hS
  clear hD hS hp hx
  rcases hv with rfl | ⟨t, u, rfl⟩
  all_goals
    go_enter Tryz.func65, Tryz.ntmps65
    go_wp2_with first
      | (go_at_call 69
         refine (C.out _ HB.out).mono ?_
         rintro e w1 ⟨rfl, hb1⟩
         have HB1 := hid ((HB.out.trans (hb1.mono HB.out.size)).alloc (HB.out.trans (hb1.mono HB.out.size)).size (.cells #[.int .i64 x.a, .int .i64 x.b, .int .i64 x.c, .int .i64 x.d] 79))
         have hp1 := (hb1.block _ (heap_lt HP.out)).trans HP.out
         have y0 := cell_of_heap hp1 0
         have y1 := cell_of_heap hp1 1
         have hpl := heap_lt hp1
         clear hb1 hp1)
      | (go_at_call 111
         refine (HS.out _ HB1.out).mono ?_
         rintro e w2 ⟨rfl, hQ⟩
         have HQ := hid hQ
         clear hQ)
    go_ret
    exact ⟨rfl, _, HB1.out, HQ.out⟩
set_option maxRecDepth 20000 in
set_option maxHeartbeats 1000000 in
theorem lend_of (hD : PDocAt w F bx bf bl sv ⟨s, rs⟩) (r : Nat) (x : Sp) (hx : rs[r]? = some x) (p0 p1 : Int) (v : Value) (hv : v = .nilIface ∨ ∃ t u, v = .iface t u) {Q : World → World → Prop}
    (hS : ∀ W, Below w.heap.size w W → Calls Tryz.prog 111 #[ptr bl, .int .i64 (r : Int), spV ⟨x.a, x.b, p0, p1⟩, .agg #[.int .i64 p0, .int .i64 p1]] W fun e w' => e = .returned v ∧ Q W w') :
    Calls Tryz.prog 66 #[ptr bl, .int .i64 (r : Int), .agg #[.int .i64 p0, .int .i64 p1]] w fun e w' => e = .returned v ∧ ∃ W, Below w.heap.size w W ∧ Q W w' := by
  have C := hid (fun W (hb : Below w.heap.size w W) => lspan_ok (hD.below hb) r x hx)
  have HB := hid (show Below w.heap.size w (w.alloc (.cells #[.int .i64 p0, .int .i64 p1] 37)) from (Below.refl _ w).alloc (Nat.le_refl _) _)
  have hp := heap_alloc_new w (.cells #[.int .i64 p0, .int .i64 p1] 37)
  have HP := hid hp
  have HS := hid hS
  clear hD hS hp hx
  rcases hv with rfl | ⟨t, u, rfl⟩
  all_goals
    go_enter Tryz.func66, Tryz.ntmps66
    go_wp2_with first
      | (go_at_call 69
         refine (C.out _ HB.out).mono ?_
         rintro e w1 ⟨rfl, hb1⟩
         have HB1 := hid ((HB.out.trans (hb1.mono HB.out.size)).alloc (HB.out.trans (hb1.mono HB.out.size)).size (.cells #[.int .i64 x.a, .int .i64 x.b, .int .i64 x.c, .int .i64 x.d] 79))
         have hp1 := (hb1.block _ (heap_lt HP.out)).trans HP.out
         have y0 := cell_of_heap hp1 0
         have y1 := cell_of_heap hp1 1
         have hpl := heap_lt hp1
         clear hb1 hp1)
      | (go_at_call 111
         refine (HS.out _ HB1.out).mono ?_
         rintro e w2 ⟨rfl, hQ⟩
         have HQ := hid hQ
         clear hQ)
    go_ret
    exact ⟨rfl, _, HB1.out, HQ.out⟩
end
set_option maxHeartbeats 400000 in
theorem mstart_ok {w : World} {F : Nat → Prop} {bx : Nat} {s : List Nd} {rs rs' : List Sp} (hP : PLies w F bx ⟨s, rs⟩) (A p0 p1 : Int)
    (hS : ∀ W bf bl sv, PDocAt W F bx bf bl sv ⟨s, rs⟩ → Calls Tryz.prog 65 #[ptr bl, .int .i64 A, .agg #[.int .i64 p0, .int .i64 p1]] W fun e w' => e = .returned .nilIface ∧ Keeps F W w' ∧ PDocAt w' (grow F W) bx bf bl sv ⟨s, rs'⟩) :
    Calls Tryz.prog 31 #[ptr bx, .int .i64 A, .agg #[.int .i64 p0, .int .i64 p1]] w (PLPost F w bx ⟨s, rs'⟩ (errV 0 0)) := by
  obtain ⟨bf, bl, sv, hD⟩ := hP
  have hB0 : Below w.heap.size w (w.alloc (.cells #[.int .i64 p0, .int .i64 p1] 37)) := (Below.refl _ w).alloc (Nat.le_refl _) _
  have C := hid (hS _ _ _ _ (hD.below hB0.drew))
  have HB0 := hid hB0
  have hxl := heap_lt hD.doc
  have c1 : w.cell? ⟨bx, 1, none⟩ = some (ptr bl) := cell_of_heap hD.doc 1
  clear hD hS hB0
  go_enter Tryz.func31, Tryz.ntmps31
  go_wp2
  go_region_with (first
    | (go_at_call 65; refine C.out.mono ?_; rintro e w1 ⟨rfl, hk1, hd1⟩; have H1 := hid (And.intro hk1 hd1); clear hk1 hd1)
    | (go_at_call 46; refine (fault_nil _).mono ?_; rintro e w2 ⟨rfl, hb2⟩))
  all_goals
    go_wp2
    go_ret
    exact ⟨by simp [errV, Act.put], ((Keeps.of_below HB0.out.drew).trans (H1.out.1.mono (fun b _ e => .inl e))).trans (Keeps.of_below hb2), _, _, _, (H1.out.2.widen (fun b h => h.imp id (fun h => Nat.le_trans HB0.out.size h))).below hb2⟩
set_option maxHeartbeats 400000 in
theorem mend_ok {w : World} {F : Nat → Prop} {bx : Nat} {s : List Nd} {rs rs' : List Sp} (hP : PLies w F bx ⟨s, rs⟩) (A p0 p1 : Int)
    (hS : ∀ W bf bl sv, PDocAt W F bx bf bl sv ⟨s, rs⟩ → Calls Tryz.prog 66 #[ptr bl, .int .i64 A, .agg #[.int .i64 p0, .int .i64 p1]] W fun e w' => e = .returned .nilIface ∧ Keeps F W w' ∧ PDocAt w' (grow F W) bx bf bl sv ⟨s, rs'⟩) :
    Calls Tryz.prog 32 #[ptr bx, .int .i64 A, .agg #[.int .i64 p0, .int .i64 p1]] w (PLPost F w bx ⟨s, rs'⟩ (errV 0 0)) := by
  obtain ⟨bf, bl, sv, hD⟩ := hP
  have hB0 : Below w.heap.size w (w.alloc (.cells #[.int .i64 p0, .int .i64 p1] 37)) := (Below.refl _ w).alloc (Nat.le_refl _) _
  have C := hid (hS _ _ _ _ (hD.below hB0.drew))
  have HB0 := hid hB0
  have hxl := heap_lt hD.doc
  have c1 : w.cell? ⟨bx, 1, none⟩ = some (ptr bl) := cell_of_heap hD.doc 1
  clear hD hS hB0
  go_enter Tryz.func32, Tryz.ntmps32
  go_wp2
  go_region_with (first
    | (go_at_call 66; refine C.out.mono ?_; rintro e w1 ⟨rfl, hk1, hd1⟩; have H1 := hid (And.intro hk1 hd1); clear hk1 hd1)
    | (go_at_call 46; refine (fault_nil _).mono ?_; rintro e w2 ⟨rfl, hb2⟩))
  all_goals
    go_wp2
    go_ret
    exact ⟨by simp [errV, Act.put], ((Keeps.of_below HB0.out.drew).trans (H1.out.1.mono (fun b _ e => .inl e))).trans (Keeps.of_below hb2), _, _, _, (H1.out.2.widen (fun b h => h.imp id (fun h => Nat.le_trans HB0.out.size h))).below hb2⟩
set_option maxRecDepth 20000 in
set_option maxHeartbeats 1000000 in
theorem mspan_of {w : World} {F : Nat → Prop} {bx : Nat} {s : List Nd} {rs : List Sp} (hg : GG w) (hP : PLies w F bx ⟨s, rs⟩) (r : Int) (x : Sp) (v : Value) (hv : v = .nilIface ∨ ∃ t u, v = .iface t u) {a y : Int} (hE : ErrOf v a y)
    (hS : ∀ W bf bl sv, PDocAt W F bx bf bl sv ⟨s, rs⟩ → Calls Tryz.prog 69 #[ptr bl, .int .i64 r] W fun e w' => e = .returned (.tuple #[spV x, v]) ∧ Below W.heap.size W w') :
    Calls Tryz.prog 36 #[ptr bx, .int .i64 r] w (PLPost F w bx ⟨s, rs⟩ (.tuple #[spV x, errV a y])) := by
  have HP := hid hP
  obtain ⟨bf, bl, sv, hD⟩ := hP
  have hB0 : Below w.heap.size w (w.alloc (.cells #[.int .i64 0, .int .i64 0, .int .i64 0, .int .i64 0] 79)) := (Below.refl _ w).alloc (Nat.le_refl _) _
  have C := hid (hS _ _ _ _ (hD.below hB0))
  have HB0 := hid hB0
  have c1 : w.cell? ⟨bx, 1, none⟩ = some (ptr bl) := cell_of_heap hD.doc 1
  have hxl := heap_lt hD.doc
  have hz0 := heap_alloc_new w (.cells #[.int .i64 0, .int .i64 0, .int .i64 0, .int .i64 0] 79)
  have HZ0 := hid hz0
  have E := hid (fun w1 (hb : Below w.heap.size w w1) => hE w1 (hg.below hb).1)
  clear hD hS hg hE hB0 hz0
  rcases hv with rfl | ⟨t, u, rfl⟩
  all_goals
    go_enter Tryz.func36, Tryz.ntmps36
    go_wp2_with (
         go_at_call 69; refine C.out.mono ?_; rintro e w1 ⟨rfl, hb1⟩
         have hB1 := HB0.out.trans (hb1.mono HB0.out.size)
         have hz1 := (hb1.block _ (heap_lt HZ0.out)).trans HZ0.out
         have hl1 := heap_lt hz1
         have hB2 := hB1.alloc hB1.size (.cells #[.int .i64 x.a, .int .i64 x.b, .int .i64 x.c, .int .i64 x.d] 79)
         have HB2 := hid hB2
         have HZ1 := hid hz1
         have HS1 := hid (heap_alloc_new w1 (.cells #[.int .i64 x.a, .int .i64 x.b, .int .i64 x.c, .int .i64 x.d] 79))
         have E1 := hid (fun w2 (hb : Below w.heap.size w w2) => E.out w2 hb)
         clear hb1 hB1 hB2 hz1)
    go_region_held3 (fun w' => w'.cell? ⟨w1.heap.size, 0, none⟩ = some (.int .i64 x.a) ∧ w'.cell? ⟨w1.heap.size, 1, none⟩ = some (.int .i64 x.b) ∧ w'.cell? ⟨w1.heap.size, 2, none⟩ = some (.int .i64 x.c) ∧ w'.cell? ⟨w1.heap.size, 3, none⟩ = some (.int .i64 x.d)) (first | exact KP2.out | exact KP1.out | go_keep) ((
         go_at_call 46
         refine (E1.out _ HB2.out.drew).mono ?_
         rintro e w2 ⟨rfl, hb2'⟩
         have hb2 : Below (w1.alloc (.cells #[.int .i64 x.a, .int .i64 x.b, .int .i64 x.c, .int .i64 x.d] 79)).heap.size (w1.alloc (.cells #[.int .i64 x.a, .int .i64 x.b, .int .i64 x.c, .int .i64 x.d] 79)) w2 := ⟨hb2'.os, hb2'.tape, hb2'.output, hb2'.size, hb2'.block⟩
         have hz2 := (hb2.block w.heap.size (by simp; omega)).trans ((Below.heap_alloc _ _ _ hl1).trans HZ1.out)
         have hs2 := (hb2.block w1.heap.size (by simp)).trans HS1.out
         have ka0 := cell_of_heap hz2 0
         have ka1 := cell_of_heap hz2 1
         have ka2 := cell_of_heap hz2 2
         have ka3 := cell_of_heap hz2 3
         have kf0 := frozen_of_heap hz2 0
         have kf1 := frozen_of_heap hz2 1
         have kf2 := frozen_of_heap hz2 2
         have kf3 := frozen_of_heap hz2 3
         have KP1 := hid (And.intro (show w2.cell? ⟨w1.heap.size, 0, none⟩ = some (.int .i64 x.a) from cell_of_heap hs2 0) (And.intro (show w2.cell? ⟨w1.heap.size, 1, none⟩ = some (.int .i64 x.b) from cell_of_heap hs2 1) (And.intro (show w2.cell? ⟨w1.heap.size, 2, none⟩ = some (.int .i64 x.c) from cell_of_heap hs2 2) (show w2.cell? ⟨w1.heap.size, 3, none⟩ = some (.int .i64 x.d) from cell_of_heap hs2 3))))
         have hk := ((((Keeps.refl (fun b => b = w.heap.size) w2).setCell (p := ⟨w.heap.size, 0, none⟩) (.inl rfl) (.int .i64 x.a)).setCell (p := ⟨w.heap.size, 1, none⟩) (.inl rfl) (.int .i64 x.b)).setCell (p := ⟨w.heap.size, 2, none⟩) (.inl rfl) (.int .i64 x.c)).setCell (p := ⟨w.heap.size, 3, none⟩) (.inl rfl) (.int .i64 x.d)
         have hne : ¬ w1.heap.size = w.heap.size := by omega
         have KP2 := hid (And.intro (hk.cell KP1.out.1 hne) (And.intro (hk.cell KP1.out.2.1 hne) (And.intro (hk.cell KP1.out.2.2.1 hne) (hk.cell KP1.out.2.2.2 hne))))
         have hl2 := heap_lt hz2
         have HB3 := hid (HB2.out.trans (hb2.mono HB2.out.size))
         clear hb2 hb2' hz2 hs2 hk))
    all_goals
      go_wp2
      refine bodyPost_ret (v := .tuple #[spV x, errV a y]) (by simp [results, Tryz.results36, go_sem, ka0, ka1, ka2, ka3, kf0, kf1, kf2, kf3, hl2]) rfl ?_
      refine ⟨rfl, HP.out.after ((((HB3.out.setCell (p := ⟨w.heap.size, 0, none⟩) (Nat.le_refl _) _).setCell (p := ⟨w.heap.size, 1, none⟩) (Nat.le_refl _) _).setCell (p := ⟨w.heap.size, 2, none⟩) (Nat.le_refl _) _).setCell (p := ⟨w.heap.size, 3, none⟩) (Nat.le_refl _) _)⟩
end Go.Proofs.YtabogkonklplcaaGreatDoor
