import Derived.Test.YtabogkonklplcaaGreatDoorV19
import Derived.Test.YtabogkonklplcaaGreatDoorV14

namespace Go.Proofs.YtabogkonklplcaaGreatDoor
open Go.RowKit Go.Lib
set_option linter.unusedSimpArgs false
set_option linter.unusedVariables false
theorem PDocAt.newSpans {w w1 : World} {F : Nat → Prop} {bx bf bl : Nat} {sv v' : Value} {s : List Nd} {rs rs' : List Sp} (h : PDocAt w F bx bf bl sv ⟨s, rs⟩) (hg : GG w) (hk1 : Keeps (fun b => sv.ownBlock = some b) w w1)
    (ho : w1.ownsRow 0 79 4 v' rs'.length (rs'.flatMap Sp.cells)) (hgn : ∀ b, v'.ownBlock = some b → sv.ownBlock = some b ∨ w.heap.size ≤ b) :
    PDocAt (w1.setCell ⟨bl, 1, none⟩ v') (grow F w) bx bf bl v' ⟨s, rs'⟩ := by
  have hlx := heap_lt h.doc
  have hll := heap_lt h.list
  have hsx : sv.ownBlock ≠ some bx := fun e => (h.apart bx e).2.2.1 rfl
  have hsl : sv.ownBlock ≠ some bl := fun e => (h.apart bl e).2.2.2 rfl
  have hk : Keeps (fun b => sv.ownBlock = some b ∨ b = bl) w (w1.setCell ⟨bl, 1, none⟩ v') := (hk1.mono (fun k _ e => .inl e)).setCell (p := ⟨bl, 1, none⟩) (.inl (.inr rfl)) _
  have hvx : v'.ownBlock ≠ some bx := fun e => by
    rcases hgn bx e with e | e
    · exact hsx e
    · omega
  have hvl : v'.ownBlock ≠ some bl := fun e => by
    rcases hgn bl e with e | e
    · exact hsl e
    · omega
  refine ⟨.inl h.Fx, h.Hx, ?_, .inl h.Fl, h.Hl, h.ne, ?_, row_setCell_other ho hvl _, fun b e => ?_, ?_⟩
  · rw [hk.block bx hlx (fun e => by rcases e with e | e; exact hsx e; exact h.ne e.symm)]; exact h.doc
  · have e1 := (hk1.block bl hll hsl).trans h.list
    rw [heap_setCell_same w1 bl 1 _ _ _ e1]
    simp
  · have hb : b ≠ bx ∧ b ≠ bl := ⟨fun e2 => hvx (by rw [← e2]; exact e), fun e2 => hvl (by rw [← e2]; exact e)⟩
    rcases hgn b e with e | e
    · exact ⟨.inl (h.apart b e).1, (h.apart b e).2.1, hb⟩
    · exact ⟨.inr e, fun hh => by have := hg.lt hh; omega, hb⟩
  · refine (h.nodes.narrow.keeps hk (fun b hb e => ?_)).wider (fun b hb => ⟨.inl hb.1.1, hb.1.2.1, hb.1.2.2.1, fun e => ?_, hb.1.2.2.2.2⟩)
    · rcases e with e | e
      · exact hb.1.2.2.2.1 e
      · exact hb.1.2.2.1 e
    · rcases hgn b e with e | e
      · exact hb.1.2.2.2.1 e
      · have := hb.2; omega
section
variable {w : World} {F : Nat → Prop} {bx bf bl : Nat} {sv : Value} {s : List Nd} {rs : List Sp}
theorem PDocAt.spanCells (hD : PDocAt w F bx bf bl sv ⟨s, rs⟩) {r : Nat} {x : Sp} (hx : rs[r]? = some x) : ∃ g c, sv = .slice (some ⟨g, 0, none⟩) rs.length c ∧ g < w.heap.size ∧ w.cell? ⟨g, r * 4, none⟩ = some (.int .i64 x.a) ∧ w.cell? ⟨g, r * 4 + 1, none⟩ = some (.int .i64 x.b) ∧ w.cell? ⟨g, r * 4 + 2, none⟩ = some (.int .i64 x.c) ∧ w.cell? ⟨g, r * 4 + 3, none⟩ = some (.int .i64 x.d) := by
  have hr : r < rs.length := (List.getElem?_eq_some_iff.1 hx).1
  obtain ⟨g, rc, hrve⟩ : ∃ g c, sv = .slice (some ⟨g, 0, none⟩) rs.length c := by
    rcases row_cases hD.spans with ⟨_, h0⟩ | ⟨g, c, h⟩
    · simp only at h0; omega
    · exact ⟨g, c, h⟩
  have hrow := hD.spans
  rw [hrve] at hrow
  refine ⟨g, rc, hrve, (hrow.lt g rfl).2, ?_, ?_, ?_, ?_⟩
  · have := hrow.cellAt (r * 4 + 0) (by omega); rw [spcells_get rs r x hx 0 (by omega)] at this; simpa [Sp.cells] using this
  · have := hrow.cellAt (r * 4 + 1) (by omega); rw [spcells_get rs r x hx 1 (by omega)] at this; simpa [Sp.cells] using this
  · have := hrow.cellAt (r * 4 + 2) (by omega); rw [spcells_get rs r x hx 2 (by omega)] at this; simpa [Sp.cells] using this
  · have := hrow.cellAt (r * 4 + 3) (by omega); rw [spcells_get rs r x hx 3 (by omega)] at this; simpa [Sp.cells] using this
set_option maxRecDepth 20000 in
set_option maxHeartbeats 1000000 in
theorem lspan_ok (hD : PDocAt w F bx bf bl sv ⟨s, rs⟩) (r : Nat) (x : Sp) (hx : rs[r]? = some x) :
    Calls Tryz.prog 69 #[ptr bl, .int .i64 (r : Int)] w fun e w' => e = .returned (.tuple #[spV x, .nilIface]) ∧ Below w.heap.size w w' := by
  have hr : r < rs.length := (List.getElem?_eq_some_iff.1 hx).1
  obtain ⟨g, c, hsv, hgl, e0, e1, e2, e3⟩ := hD.spanCells hx
  have c1 : w.cell? ⟨bl, 1, none⟩ = some sv := cell_of_heap hD.list 1
  rw [hsv] at c1
  have hll := heap_lt hD.list
  have d1 : decide ((r : Int) < 0) = false := decide_eq_false (by omega)
  have d2 : decide ((rs.length : Int) ≤ (r : Int)) = false := decide_eq_false (by omega)
  have hgn : ¬ w.heap.size = g := by omega
  clear hD hx hsv
  go_enter Tryz.func69, Tryz.ntmps69
  go_wp2
  refine bodyPost_ret (v := .tuple #[spV x, .nilIface]) (by simp [results, Tryz.results69, go_sem, *]) rfl ?_
  exact ⟨rfl, by go_grown⟩
end
end Go.Proofs.YtabogkonklplcaaGreatDoor

namespace Go.Proofs.YtabogkonklplcaaGreatDoor
open Go.RowKit Go.Lib
set_option linter.unusedSimpArgs false
set_option linter.unusedVariables false
section
variable {w : World} {F : Nat → Prop} {bx bf bl : Nat} {sv : Value} {s : List Nd} {rs : List Sp}
set_option maxRecDepth 20000 in
set_option maxHeartbeats 1000000 in
theorem ladd_some (hg : GG w) (hD : PDocAt w F bx bf bl sv ⟨s, rs⟩) (h6 : rs.length < 6) :
    Calls Tryz.prog 96 #[ptr bl] w fun e w' => e = .returned (.tuple #[.int .i64 rs.length, .nilIface]) ∧ Keeps F w w' ∧ ∃ sv', PDocAt w' (grow F w) bx bf bl sv' ⟨s, rs ++ [⟨0, 0, 0, 0⟩]⟩ := by
  obtain ⟨i0, hi, hz0, hz1, hz2⟩ := info_parts Tryz.info79
  obtain ⟨ra, rc, hsv⟩ := slice_shape hD.spans
  have c1 : w.cell? ⟨bl, 1, none⟩ = some sv := cell_of_heap hD.list 1
  rw [hsv] at c1
  have hll := heap_lt hD.list
  have h1 : decide ((6 : Int) ≤ (rs.length : Int)) = false := decide_eq_false (by omega)
  have hW : Below w.heap.size w (((w.alloc (.cells #[.int .i64 0, .int .i64 0] 37)).drew).alloc (.cells #[.int .i64 0, .int .i64 0, .int .i64 0, .int .i64 0] 79)) := (((Below.refl _ w).alloc (Nat.le_refl _) _).drew).alloc (by simp) _
  have hrow := (Keeps.of_below (F := fun _ => False) hW).row hD.spans (fun _ _ e => e)
  rw [hsv] at hrow
  simp only at hrow
  have src : ∀ (j : Nat) (u : Value), [Value.int .i64 0, .int .i64 0, .int .i64 0, .int .i64 0][j]? = some u → (((w.alloc (.cells #[.int .i64 0, .int .i64 0] 37)).drew).alloc (.cells #[.int .i64 0, .int .i64 0, .int .i64 0, .int .i64 0] 79)).cell? ((⟨w.heap.size + 1, 0, none⟩ : Addr).add j) = some u := by
    have := World.news_of_block (heap_alloc_new ((w.alloc (.cells #[.int .i64 0, .int .i64 0] 37)).drew) (.cells #[.int .i64 0, .int .i64 0, .int .i64 0, .int .i64 0] 79))
    simpa using this
  have hbd : (Value.slice ra rs.length rc).ownBlock ≠ some bl := fun e => (hD.apart bl (by rw [hsv]; exact e)).2.2.2 rfl
  have hbl : ∀ b, (Value.slice ra rs.length rc).ownBlock = some b → b < w.heap.size := fun b e => (hD.spans.lt b (by rw [hsv]; exact e)).2
  have HBL := hid hbl
  have hp0 : (((w.alloc (.cells #[.int .i64 0, .int .i64 0] 37)).drew).alloc (.cells #[.int .i64 0, .int .i64 0, .int .i64 0, .int .i64 0] 79)).heap[w.heap.size]? = some (.cells #[.int .i64 0, .int .i64 0] 37 (0, 0)) := by
    rw [Below.heap_alloc _ _ _ (by simp)]; exact heap_alloc_new w _
  have HP0 := hid hp0
  clear hbl hp0
  have HW := hid hW
  have HROW := hid hrow
  have SRC := hid src
  have HBD := hid hbd
  clear hW hrow src hbd
  have HD := hid hD
  have HG := hid hg
  have HSV := hid hsv
  clear hD hg hsv
  go_enter Tryz.func96, Tryz.ntmps96
  go_wp2
  go_region_law (
       refine step_append_lies _ rfl (.tmp 19) (.tmp 23) 121 rfl 0 79 i0 _ 4 32 Tryz.underlying121 hi hz0 hz1 hz2 rfl (by decide) (.slice ra rs.length rc) rs.length _ (by simp [Act.eval, Act.put]) HROW.out ⟨w.heap.size + 1, 0, none⟩ 1 1 [.int .i64 0, .int .i64 0, .int .i64 0, .int .i64 0] (by simp [Act.eval, Act.put]) rfl SRC.out (by simp [Value.oneCell']) (by decide) (by unfold maxLen; omega) (by omega) (Nat.zero_le _) (w.heap.size + 2) (by simp) ?_
       intro g cap' w1 ho hg hgn _
       have hk1 : Keeps (fun b => (Value.slice ra rs.length rc).ownBlock = some b) (((w.alloc (.cells #[.int .i64 0, .int .i64 0] 37)).drew).alloc (.cells #[.int .i64 0, .int .i64 0, .int .i64 0, .int .i64 0] 79)) w1 := Keeps.grown hg (fun k e => .inl e)
       have hd1 := (hk1.block bl (by simp; omega) HBD.out).trans ((HW.out.block bl hll).trans HD.out.list)
       have hc1 : w1.cell? ⟨bl, 1, none⟩ = some (.slice ra rs.length rc) := by rw [← HSV.out]; exact cell_of_heap hd1 1
       have hf1 := frozen_of_heap hd1 1
       have hp0 := (hk1.block w.heap.size (by simp; omega) (fun e => by have := HBL.out _ e; omega)).trans (HP0.out)
       have KEEP := hid (And.intro (cell_of_heap hp0 0) (cell_of_heap hp0 1))
       have hbw : ¬ bl = w.heap.size := by omega
       have HK := hid hk1
       have HO2 := hid ho
       have HN := hid hgn
       clear hd1 hg ho hgn hk1 hp0)
  all_goals
    go_wp2
    go_ret2
    have hkw : Keeps (fun b => sv.ownBlock = some b) w w1 := by
      rw [HSV.out]
      exact (Keeps.of_below HW.out).trans (HK.out.mono (fun b _ e => .inl e))
    have hN := HD.out.newSpans HG.out hkw (v' := .slice (some ⟨g, 0, none⟩) (rs.length + 1) cap') (rs' := rs ++ [⟨0, 0, 0, 0⟩]) (by rw [List.length_append, List.flatMap_append]; exact HO2.out) (fun b e => by
      cases e
      rcases HN.out with e | e
      · exact .inl (by rw [HSV.out]; exact e)
      · exact .inr (by show w.heap.size ≤ g; have e2 : g = w.heap.size + 2 := e; omega))
    have hkF : Keeps F w w1 := hkw.mono (fun b _ e => (HD.out.apart b e).1)
    exact ⟨rfl, hkF.setCell (p := ⟨bl, 1, none⟩) (.inl HD.out.Fl) _, _, hN⟩
end
end Go.Proofs.YtabogkonklplcaaGreatDoor

namespace Go.Proofs.YtabogkonklplcaaGreatDoor
open Go.RowKit Go.Lib
set_option linter.unusedSimpArgs false
set_option linter.unusedVariables false
theorem PLies.after {w w' : World} {F : Nat → Prop} {bx : Nat} {st : St} (h : PLies w F bx st) (hb : Below w.heap.size w w') : Keeps F w w' ∧ PLies w' (grow F w) bx st :=
  ⟨Keeps.of_below hb, (h.keeps (Keeps.of_below (F := fun _ => False) hb) (fun _ _ e => e)).wider (fun b h => .inl h)⟩
section
variable {w : World} {F : Nat → Prop} {bx : Nat} {s : List Nd} {rs : List Sp}
set_option maxHeartbeats 400000 in
theorem mrange_some (hg : GG w) (hP : PLies w F bx ⟨s, rs⟩) (h6 : rs.length < 6) : Calls Tryz.prog 56 #[ptr bx] w (PLPost F w bx ⟨s, rs ++ [⟨0, 0, 0, 0⟩]⟩ (.tuple #[.int .i64 rs.length, errV 0 0])) := by
  obtain ⟨bf, bl, sv, hD⟩ := hP
  have C := hid (ladd_some hg hD h6)
  have c1 : w.cell? ⟨bx, 1, none⟩ = some (ptr bl) := cell_of_heap hD.doc 1
  clear hD hg
  go_enter Tryz.func56, Tryz.ntmps56
  go_wp2_with first
    | (go_at_call 96; refine C.out.mono ?_; rintro e w1 ⟨rfl, hk1, sv', hD1⟩; have H1 := hid (And.intro hk1 hD1); clear hk1 hD1)
    | (go_at_call 46; refine (fault_nil _).mono ?_; rintro e w2 ⟨rfl, hb2⟩)
  go_ret2
  obtain ⟨hk1, hD1⟩ := H1.out
  exact ⟨by simp [errV], hk1.trans (Keeps.of_below hb2), _, _, _, hD1.below hb2⟩
end
end Go.Proofs.YtabogkonklplcaaGreatDoor
