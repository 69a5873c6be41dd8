import Derived.Test.YtabogkonklplcaaGreatDoorF36

/- ranges.SetStart, SetEnd; margin.SetStart, SetEnd, Span. -/
namespace Go.Proofs.YtabogkonklplcaaGreatDoor
open Go.RowKit
set_option linter.unusedSimpArgs false
set_option linter.unusedVariables false

theorem PDocAt.widen {w : World} {F G : Nat → Prop} {bx bf bl : Nat} {sv : Value} {st : St} (h : PDocAt w F bx bf bl sv st) (hG : ∀ b, F b → G b) : PDocAt w G bx bf bl sv st :=
  ⟨hG _ h.Fx, h.Hx, h.doc, hG _ h.Fl, h.Hl, h.ne, h.list, h.spans, fun b e => ⟨hG _ (h.apart b e).1, (h.apart b e).2⟩, h.nodes.wider (fun b hb => ⟨hG _ hb.1, hb.2⟩)⟩

section
variable {w : World} {F : Nat → Prop} {bx bf bl : Nat} {sv : Value} {s : List Nd} {rs : List Sp}

set_option maxRecDepth 20000 in
set_option maxHeartbeats 1000000 in
theorem lstart_no (hD : PDocAt w F bx bf bl sv ⟨s, rs⟩) (r p0 p1 : Int) (h : r < 0 ∨ (rs.length : Int) ≤ r) :
    Calls Tryz.prog 65 #[ptr bl, .int .i64 r, .agg #[.int .i64 p0, .int .i64 p1]] w fun e w' => e = .returned (.iface 141 (.agg #[.int .i64 r])) ∧ Below w.heap.size w w' := by
  have C := hid (fun W (hb : Below w.heap.size w W) => lspan_no (hD.below hb) r h)
  have HB := hid (show Below w.heap.size w (w.alloc (.cells #[.int .i64 p0, .int .i64 p1] 37)) from (Below.refl _ w).alloc (Nat.le_refl _) _)
  clear hD h
  go_enter Tryz.func65, Tryz.ntmps65
  go_wp2_with (
    go_at_call 69
    refine (C.out _ HB.out).mono ?_
    rintro e w1 ⟨rfl, hb1⟩
    have HB1 := hid (HB.out.trans (hb1.mono HB.out.size))
    clear hb1)
  go_ret
  exact ⟨rfl, HB1.out.alloc HB1.out.size _⟩

set_option maxRecDepth 20000 in
set_option maxHeartbeats 1000000 in
theorem lend_no (hD : PDocAt w F bx bf bl sv ⟨s, rs⟩) (r p0 p1 : Int) (h : r < 0 ∨ (rs.length : Int) ≤ r) :
    Calls Tryz.prog 66 #[ptr bl, .int .i64 r, .agg #[.int .i64 p0, .int .i64 p1]] w fun e w' => e = .returned (.iface 141 (.agg #[.int .i64 r])) ∧ Below w.heap.size w w' := by
  have C := hid (fun W (hb : Below w.heap.size w W) => lspan_no (hD.below hb) r h)
  have HB := hid (show Below w.heap.size w (w.alloc (.cells #[.int .i64 p0, .int .i64 p1] 37)) from (Below.refl _ w).alloc (Nat.le_refl _) _)
  clear hD h
  go_enter Tryz.func66, Tryz.ntmps66
  go_wp2_with (
    go_at_call 69
    refine (C.out _ HB.out).mono ?_
    rintro e w1 ⟨rfl, hb1⟩
    have HB1 := hid (HB.out.trans (hb1.mono HB.out.size))
    clear hb1)
  go_ret
  exact ⟨rfl, HB1.out.alloc HB1.out.size _⟩

set_option maxRecDepth 20000 in
set_option maxHeartbeats 1000000 in
theorem lstart_of (hD : PDocAt w F bx bf bl sv ⟨s, rs⟩) (r : Nat) (x : Sp) (hx : rs[r]? = some x) (p0 p1 : Int) (v : Value) (hv : v = .nilIface ∨ ∃ t u, v = .iface t u) {Q : World → World → Prop}
    (hS : ∀ W, Below w.heap.size w W → Calls Tryz.prog 111 #[ptr bl, .int .i64 (r : Int), spV ⟨p0, p1, x.c, x.d⟩, .agg #[.int .i64 p0, .int .i64 p1]] W fun e w' => e = .returned v ∧ Q W w') :
    Calls Tryz.prog 65 #[ptr bl, .int .i64 (r : Int), .agg #[.int .i64 p0, .int .i64 p1]] w fun e w' => e = .returned v ∧ ∃ W, Below w.heap.size w W ∧ Q W w' := by
  have C := hid (fun W (hb : Below w.heap.size w W) => lspan_ok (hD.below hb) r x hx)
  have HB := hid (show Below w.heap.size w (w.alloc (.cells #[.int .i64 p0, .int .i64 p1] 37)) from (Below.refl _ w).alloc (Nat.le_refl _) _)
  have hp := heap_alloc_new w (.cells #[.int .i64 p0, .int .i64 p1] 37)
  have HP := hid hp
  have HS := hid hS
  clear hD hS hp hx
  rcases hv with rfl | ⟨t, u, rfl⟩
  all_goals
    go_enter Tryz.func65, Tryz.ntmps65
    go_wp2_with first
      | (go_at_call 69
         refine (C.out _ HB.out).mono ?_
         rintro e w1 ⟨rfl, hb1⟩
         have HB1 := hid ((HB.out.trans (hb1.mono HB.out.size)).alloc (HB.out.trans (hb1.mono HB.out.size)).size (.cells #[.int .i64 x.a, .int .i64 x.b, .int .i64 x.c, .int .i64 x.d] 79))
         have hp1 := (hb1.block _ (heap_lt HP.out)).trans HP.out
         have y0 := cell_of_heap hp1 0
         have y1 := cell_of_heap hp1 1
         have hpl := heap_lt hp1
         clear hb1 hp1)
      | (go_at_call 111
         refine (HS.out _ HB1.out).mono ?_
         rintro e w2 ⟨rfl, hQ⟩
         have HQ := hid hQ
         clear hQ)
    go_ret
    exact ⟨rfl, _, HB1.out, HQ.out⟩

set_option maxRecDepth 20000 in
set_option maxHeartbeats 1000000 in
theorem lend_of (hD : PDocAt w F bx bf bl sv ⟨s, rs⟩) (r : Nat) (x : Sp) (hx : rs[r]? = some x) (p0 p1 : Int) (v : Value) (hv : v = .nilIface ∨ ∃ t u, v = .iface t u) {Q : World → World → Prop}
    (hS : ∀ W, Below w.heap.size w W → Calls Tryz.prog 111 #[ptr bl, .int .i64 (r : Int), spV ⟨x.a, x.b, p0, p1⟩, .agg #[.int .i64 p0, .int .i64 p1]] W fun e w' => e = .returned v ∧ Q W w') :
    Calls Tryz.prog 66 #[ptr bl, .int .i64 (r : Int), .agg #[.int .i64 p0, .int .i64 p1]] w fun e w' => e = .returned v ∧ ∃ W, Below w.heap.size w W ∧ Q W w' := by
  have C := hid (fun W (hb : Below w.heap.size w W) => lspan_ok (hD.below hb) r x hx)
  have HB := hid (show Below w.heap.size w (w.alloc (.cells #[.int .i64 p0, .int .i64 p1] 37)) from (Below.refl _ w).alloc (Nat.le_refl _) _)
  have hp := heap_alloc_new w (.cells #[.int .i64 p0, .int .i64 p1] 37)
  have HP := hid hp
  have HS := hid hS
  clear hD hS hp hx
  rcases hv with rfl | ⟨t, u, rfl⟩
  all_goals
    go_enter Tryz.func66, Tryz.ntmps66
    go_wp2_with first
      | (go_at_call 69
         refine (C.out _ HB.out).mono ?_
         rintro e w1 ⟨rfl, hb1⟩
         have HB1 := hid ((HB.out.trans (hb1.mono HB.out.size)).alloc (HB.out.trans (hb1.mono HB.out.size)).size (.cells #[.int .i64 x.a, .int .i64 x.b, .int .i64 x.c, .int .i64 x.d] 79))
         have hp1 := (hb1.block _ (heap_lt HP.out)).trans HP.out
         have y0 := cell_of_heap hp1 0
         have y1 := cell_of_heap hp1 1
         have hpl := heap_lt hp1
         clear hb1 hp1)
      | (go_at_call 111
         refine (HS.out _ HB1.out).mono ?_
         rintro e w2 ⟨rfl, hQ⟩
         have HQ := hid hQ
         clear hQ)
    go_ret
    exact ⟨rfl, _, HB1.out, HQ.out⟩

end

set_option maxHeartbeats 400000 in
theorem mstart_no {w : World} {F : Nat → Prop} {bx : Nat} {s : List Nd} {rs : List Sp} (hg : GG w) (hP : PLies w F bx ⟨s, rs⟩) {t : TypeId} {u : Value} {a y : Int} (A p0 p1 : Int) (hE : ErrOf (.iface t u) a y)
    (hS : ∀ W bf bl sv, PDocAt W F bx bf bl sv ⟨s, rs⟩ → Calls Tryz.prog 65 #[ptr bl, .int .i64 A, .agg #[.int .i64 p0, .int .i64 p1]] W fun e w' => e = .returned (.iface t u) ∧ Below W.heap.size W w') :
    Calls Tryz.prog 31 #[ptr bx, .int .i64 A, .agg #[.int .i64 p0, .int .i64 p1]] w (PLPost F w bx ⟨s, rs⟩ (errV a y)) := by
  have HP := hid hP
  obtain ⟨bf, bl, sv, hD⟩ := hP
  have hB0 : Below w.heap.size w (w.alloc (.cells #[.int .i64 p0, .int .i64 p1] 37)) := (Below.refl _ w).alloc (Nat.le_refl _) _
  have C := hid (hS _ _ _ _ (hD.below hB0.drew))
  have HB0 := hid hB0
  have hxl := heap_lt hD.doc
  have c1 : w.cell? ⟨bx, 1, none⟩ = some (ptr bl) := cell_of_heap hD.doc 1
  have E := hid (fun w1 (hb : Below w.heap.size w w1) => hE w1 (hg.below hb).1)
  clear hD hS hg hE hB0
  go_enter Tryz.func31, Tryz.ntmps31
  go_wp2
  go_region_with (first
    | (go_at_call 65; refine C.out.mono ?_; rintro e w1 ⟨rfl, hb1'⟩; have hb1 := HB0.out.drew.trans (hb1'.mono HB0.out.drew.size); have E1 := hid (E.out w1 hb1))
    | (go_at_call 46; refine E1.out.mono ?_; rintro e w2 ⟨rfl, hb2⟩))
  all_goals
    go_wp2
    go_ret
    exact ⟨rfl, HP.out.after (hb1.trans (hb2.mono hb1.size))⟩

set_option maxHeartbeats 400000 in
theorem mstart_ok {w : World} {F : Nat → Prop} {bx : Nat} {s : List Nd} {rs rs' : List Sp} (hP : PLies w F bx ⟨s, rs⟩) (A p0 p1 : Int)
    (hS : ∀ W bf bl sv, PDocAt W F bx bf bl sv ⟨s, rs⟩ → Calls Tryz.prog 65 #[ptr bl, .int .i64 A, .agg #[.int .i64 p0, .int .i64 p1]] W fun e w' => e = .returned .nilIface ∧ Keeps F W w' ∧ PDocAt w' (grow F W) bx bf bl sv ⟨s, rs'⟩) :
    Calls Tryz.prog 31 #[ptr bx, .int .i64 A, .agg #[.int .i64 p0, .int .i64 p1]] w (PLPost F w bx ⟨s, rs'⟩ (errV 0 0)) := by
  obtain ⟨bf, bl, sv, hD⟩ := hP
  have hB0 : Below w.heap.size w (w.alloc (.cells #[.int .i64 p0, .int .i64 p1] 37)) := (Below.refl _ w).alloc (Nat.le_refl _) _
  have C := hid (hS _ _ _ _ (hD.below hB0.drew))
  have HB0 := hid hB0
  have hxl := heap_lt hD.doc
  have c1 : w.cell? ⟨bx, 1, none⟩ = some (ptr bl) := cell_of_heap hD.doc 1
  clear hD hS hB0
  go_enter Tryz.func31, Tryz.ntmps31
  go_wp2
  go_region_with (first
    | (go_at_call 65; refine C.out.mono ?_; rintro e w1 ⟨rfl, hk1, hd1⟩; have H1 := hid (And.intro hk1 hd1); clear hk1 hd1)
    | (go_at_call 46; refine (fault_nil _).mono ?_; rintro e w2 ⟨rfl, hb2⟩))
  all_goals
    go_wp2
    go_ret
    exact ⟨by simp [errV, Act.put], ((Keeps.of_below HB0.out.drew).trans (H1.out.1.mono (fun b _ e => .inl e))).trans (Keeps.of_below hb2), _, _, _, (H1.out.2.widen (fun b h => h.imp id (fun h => Nat.le_trans HB0.out.size h))).below hb2⟩

set_option maxHeartbeats 400000 in
theorem mend_no {w : World} {F : Nat → Prop} {bx : Nat} {s : List Nd} {rs : List Sp} (hg : GG w) (hP : PLies w F bx ⟨s, rs⟩) {t : TypeId} {u : Value} {a y : Int} (A p0 p1 : Int) (hE : ErrOf (.iface t u) a y)
    (hS : ∀ W bf bl sv, PDocAt W F bx bf bl sv ⟨s, rs⟩ → Calls Tryz.prog 66 #[ptr bl, .int .i64 A, .agg #[.int .i64 p0, .int .i64 p1]] W fun e w' => e = .returned (.iface t u) ∧ Below W.heap.size W w') :
    Calls Tryz.prog 32 #[ptr bx, .int .i64 A, .agg #[.int .i64 p0, .int .i64 p1]] w (PLPost F w bx ⟨s, rs⟩ (errV a y)) := by
  have HP := hid hP
  obtain ⟨bf, bl, sv, hD⟩ := hP
  have hB0 : Below w.heap.size w (w.alloc (.cells #[.int .i64 p0, .int .i64 p1] 37)) := (Below.refl _ w).alloc (Nat.le_refl _) _
  have C := hid (hS _ _ _ _ (hD.below hB0.drew))
  have HB0 := hid hB0
  have hxl := heap_lt hD.doc
  have c1 : w.cell? ⟨bx, 1, none⟩ = some (ptr bl) := cell_of_heap hD.doc 1
  have E := hid (fun w1 (hb : Below w.heap.size w w1) => hE w1 (hg.below hb).1)
  clear hD hS hg hE hB0
  go_enter Tryz.func32, Tryz.ntmps32
  go_wp2
  go_region_with (first
    | (go_at_call 66; refine C.out.mono ?_; rintro e w1 ⟨rfl, hb1'⟩; have hb1 := HB0.out.drew.trans (hb1'.mono HB0.out.drew.size); have E1 := hid (E.out w1 hb1))
    | (go_at_call 46; refine E1.out.mono ?_; rintro e w2 ⟨rfl, hb2⟩))
  all_goals
    go_wp2
    go_ret
    exact ⟨rfl, HP.out.after (hb1.trans (hb2.mono hb1.size))⟩

set_option maxHeartbeats 400000 in
theorem mend_ok {w : World} {F : Nat → Prop} {bx : Nat} {s : List Nd} {rs rs' : List Sp} (hP : PLies w F bx ⟨s, rs⟩) (A p0 p1 : Int)
    (hS : ∀ W bf bl sv, PDocAt W F bx bf bl sv ⟨s, rs⟩ → Calls Tryz.prog 66 #[ptr bl, .int .i64 A, .agg #[.int .i64 p0, .int .i64 p1]] W fun e w' => e = .returned .nilIface ∧ Keeps F W w' ∧ PDocAt w' (grow F W) bx bf bl sv ⟨s, rs'⟩) :
    Calls Tryz.prog 32 #[ptr bx, .int .i64 A, .agg #[.int .i64 p0, .int .i64 p1]] w (PLPost F w bx ⟨s, rs'⟩ (errV 0 0)) := by
  obtain ⟨bf, bl, sv, hD⟩ := hP
  have hB0 : Below w.heap.size w (w.alloc (.cells #[.int .i64 p0, .int .i64 p1] 37)) := (Below.refl _ w).alloc (Nat.le_refl _) _
  have C := hid (hS _ _ _ _ (hD.below hB0.drew))
  have HB0 := hid hB0
  have hxl := heap_lt hD.doc
  have c1 : w.cell? ⟨bx, 1, none⟩ = some (ptr bl) := cell_of_heap hD.doc 1
  clear hD hS hB0
  go_enter Tryz.func32, Tryz.ntmps32
  go_wp2
  go_region_with (first
    | (go_at_call 66; refine C.out.mono ?_; rintro e w1 ⟨rfl, hk1, hd1⟩; have H1 := hid (And.intro hk1 hd1); clear hk1 hd1)
    | (go_at_call 46; refine (fault_nil _).mono ?_; rintro e w2 ⟨rfl, hb2⟩))
  all_goals
    go_wp2
    go_ret
    exact ⟨by simp [errV, Act.put], ((Keeps.of_below HB0.out.drew).trans (H1.out.1.mono (fun b _ e => .inl e))).trans (Keeps.of_below hb2), _, _, _, (H1.out.2.widen (fun b h => h.imp id (fun h => Nat.le_trans HB0.out.size h))).below hb2⟩

set_option maxRecDepth 20000 in
set_option maxHeartbeats 1000000 in
theorem mspan_of {w : World} {F : Nat → Prop} {bx : Nat} {s : List Nd} {rs : List Sp} (hg : GG w) (hP : PLies w F bx ⟨s, rs⟩) (r : Int) (x : Sp) (v : Value) (hv : v = .nilIface ∨ ∃ t u, v = .iface t u) {a y : Int} (hE : ErrOf v a y)
    (hS : ∀ W bf bl sv, PDocAt W F bx bf bl sv ⟨s, rs⟩ → Calls Tryz.prog 69 #[ptr bl, .int .i64 r] W fun e w' => e = .returned (.tuple #[spV x, v]) ∧ Below W.heap.size W w') :
    Calls Tryz.prog 36 #[ptr bx, .int .i64 r] w (PLPost F w bx ⟨s, rs⟩ (.tuple #[spV x, errV a y])) := by
  have HP := hid hP
  obtain ⟨bf, bl, sv, hD⟩ := hP
  have hB0 : Below w.heap.size w (w.alloc (.cells #[.int .i64 0, .int .i64 0, .int .i64 0, .int .i64 0] 79)) := (Below.refl _ w).alloc (Nat.le_refl _) _
  have C := hid (hS _ _ _ _ (hD.below hB0))
  have HB0 := hid hB0
  have c1 : w.cell? ⟨bx, 1, none⟩ = some (ptr bl) := cell_of_heap hD.doc 1
  have hxl := heap_lt hD.doc
  have hz0 := heap_alloc_new w (.cells #[.int .i64 0, .int .i64 0, .int .i64 0, .int .i64 0] 79)
  have HZ0 := hid hz0
  have E := hid (fun w1 (hb : Below w.heap.size w w1) => hE w1 (hg.below hb).1)
  clear hD hS hg hE hB0 hz0
  rcases hv with rfl | ⟨t, u, rfl⟩
  all_goals
    go_enter Tryz.func36, Tryz.ntmps36
    go_wp2_with (
         go_at_call 69; refine C.out.mono ?_; rintro e w1 ⟨rfl, hb1⟩
         have hB1 := HB0.out.trans (hb1.mono HB0.out.size)
         have hz1 := (hb1.block _ (heap_lt HZ0.out)).trans HZ0.out
         have hl1 := heap_lt hz1
         have hB2 := hB1.alloc hB1.size (.cells #[.int .i64 x.a, .int .i64 x.b, .int .i64 x.c, .int .i64 x.d] 79)
         have HB2 := hid hB2
         have HZ1 := hid hz1
         have HS1 := hid (heap_alloc_new w1 (.cells #[.int .i64 x.a, .int .i64 x.b, .int .i64 x.c, .int .i64 x.d] 79))
         have E1 := hid (fun w2 (hb : Below w.heap.size w w2) => E.out w2 hb)
         clear hb1 hB1 hB2 hz1)
    go_region_held3 (fun w' => w'.cell? ⟨w1.heap.size, 0, none⟩ = some (.int .i64 x.a) ∧ w'.cell? ⟨w1.heap.size, 1, none⟩ = some (.int .i64 x.b) ∧ w'.cell? ⟨w1.heap.size, 2, none⟩ = some (.int .i64 x.c) ∧ w'.cell? ⟨w1.heap.size, 3, none⟩ = some (.int .i64 x.d)) (first | exact KP2.out | exact KP1.out | go_keep) ((
         go_at_call 46
         refine (E1.out _ HB2.out.drew).mono ?_
         rintro e w2 ⟨rfl, hb2'⟩
         have hb2 : Below (w1.alloc (.cells #[.int .i64 x.a, .int .i64 x.b, .int .i64 x.c, .int .i64 x.d] 79)).heap.size (w1.alloc (.cells #[.int .i64 x.a, .int .i64 x.b, .int .i64 x.c, .int .i64 x.d] 79)) w2 := ⟨hb2'.os, hb2'.tape, hb2'.output, hb2'.size, hb2'.block⟩
         have hz2 := (hb2.block w.heap.size (by simp; omega)).trans ((Below.heap_alloc _ _ _ hl1).trans HZ1.out)
         have hs2 := (hb2.block w1.heap.size (by simp)).trans HS1.out
         have ka0 := cell_of_heap hz2 0
         have ka1 := cell_of_heap hz2 1
         have ka2 := cell_of_heap hz2 2
         have ka3 := cell_of_heap hz2 3
         have kf0 := frozen_of_heap hz2 0
         have kf1 := frozen_of_heap hz2 1
         have kf2 := frozen_of_heap hz2 2
         have kf3 := frozen_of_heap hz2 3
         have KP1 := hid (And.intro (show w2.cell? ⟨w1.heap.size, 0, none⟩ = some (.int .i64 x.a) from cell_of_heap hs2 0) (And.intro (show w2.cell? ⟨w1.heap.size, 1, none⟩ = some (.int .i64 x.b) from cell_of_heap hs2 1) (And.intro (show w2.cell? ⟨w1.heap.size, 2, none⟩ = some (.int .i64 x.c) from cell_of_heap hs2 2) (show w2.cell? ⟨w1.heap.size, 3, none⟩ = some (.int .i64 x.d) from cell_of_heap hs2 3))))
         have hk := ((((Keeps.refl (fun b => b = w.heap.size) w2).setCell (p := ⟨w.heap.size, 0, none⟩) (.inl rfl) (.int .i64 x.a)).setCell (p := ⟨w.heap.size, 1, none⟩) (.inl rfl) (.int .i64 x.b)).setCell (p := ⟨w.heap.size, 2, none⟩) (.inl rfl) (.int .i64 x.c)).setCell (p := ⟨w.heap.size, 3, none⟩) (.inl rfl) (.int .i64 x.d)
         have hne : ¬ w1.heap.size = w.heap.size := by omega
         have KP2 := hid (And.intro (hk.cell KP1.out.1 hne) (And.intro (hk.cell KP1.out.2.1 hne) (And.intro (hk.cell KP1.out.2.2.1 hne) (hk.cell KP1.out.2.2.2 hne))))
         have hl2 := heap_lt hz2
         have HB3 := hid (HB2.out.trans (hb2.mono HB2.out.size))
         clear hb2 hb2' hz2 hs2 hk))
    all_goals
      go_wp2
      refine bodyPost_ret (v := .tuple #[spV x, errV a y]) (by simp [results, Tryz.results36, go_sem, ka0, ka1, ka2, ka3, kf0, kf1, kf2, kf3, hl2]) rfl ?_
      refine ⟨rfl, HP.out.after ((((HB3.out.setCell (p := ⟨w.heap.size, 0, none⟩) (Nat.le_refl _) _).setCell (p := ⟨w.heap.size, 1, none⟩) (Nat.le_refl _) _).setCell (p := ⟨w.heap.size, 2, none⟩) (Nat.le_refl _) _).setCell (p := ⟨w.heap.size, 3, none⟩) (Nat.le_refl _) _)⟩

end Go.Proofs.YtabogkonklplcaaGreatDoor
