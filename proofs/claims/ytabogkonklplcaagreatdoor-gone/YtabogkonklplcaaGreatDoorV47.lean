import Derived.Test.YtabogkonklplcaaGreatDoorV33
import Derived.Test.YtabogkonklplcaaGreatDoorV36

namespace Go.Proofs.YtabogkonklplcaaGreatDoor
open Go.RowKit Go.Shelf
set_option linter.unusedSimpArgs false
set_option linter.unusedVariables false
attribute [local go_sem] Oper.semAt_some
set_option maxRecDepth 20000 in
set_option maxHeartbeats 4000000 in
theorem tinside_any {s : List Nd} (wf : WF s) {h : Nat → Nat} {B : Nat} (u : Up s h B) {F : Nat → Prop} {bf bn cap : Nat} {pn : List PN} {w : World} (hD : PForAt w F bf bn cap pn s) (a b c d t : Nat) (ha : a < s.length) (hc : c < s.length) (ta : IsTop s a t) (tc : IsTop s c t) (hb : b ≤ sizeAt s a) (hd : d ≤ sizeAt s c) :
    Calls Tryz.prog 188 #[ptr bf, spV ⟨a, b, c, d⟩] w fun e w' => ∃ sa sc, e = .returned (.slice sa (leaveF s (plF s (B + 1) t) a b c d (allF s (B + 1) t)).length sc) ∧ w'.ownsRow 0 3 1 (.slice sa (leaveF s (plF s (B + 1) t) a b c d (allF s (B + 1) t)).length sc) (leaveF s (plF s (B + 1) t) a b c d (allF s (B + 1) t)).length (intsV (leaveF s (plF s (B + 1) t) a b c d (allF s (B + 1) t))) ∧ Below w.heap.size w w' ∧ (∀ k, (Value.slice sa (leaveF s (plF s (B + 1) t) a b c d (allF s (B + 1) t)).length sc).ownBlock = some k → w.heap.size ≤ k) := by
  obtain ⟨i0, hi, hz0, hz1, hz2⟩ := info_parts Tryz.infoInt
  have HD := hid hD.narrow
  clear hD
  refine callsIn_wide.1 (callsIn_of_wp_marks (F := Fence.wide) (n := 1) Tryz.func188 rfl trivial ?_ rfl)
  simp only [Tryz.ntmps188, List.size_toArray, List.length_cons, List.length_nil, Nat.reduceAdd, Nat.reduceSub, Array.replicate_succ, Array.replicate_zero, List.push_toArray, List.append_toArray, List.nil_append, List.cons_append]
  have C := hid (fun (W : World) => all_any bf t W)
  have CT := hid (fun (W : World) (hb : Below w.heap.size w W) => ttop_at wf (HD.out.below hb) ta ha)
  have st : (store ⟨w.heap.size + 1 + 1, 0, none⟩ (.func (.func 199) #[] #[.pointer (some ⟨w.heap.size, 0, none⟩), .pointer (some ⟨w.heap.size + 1, 0, none⟩)])).run Tryz.prog (((w.alloc (.cells #[ptr bf] 91)).alloc (.cells #[.int .i64 (a : Int), .int .i64 (b : Int), .int .i64 (c : Int), .int .i64 (d : Int)] 79)).alloc (.cells #[.nilFunc] 83)) =
      .ok () (((w.alloc (.cells #[ptr bf] 91)).alloc (.cells #[.int .i64 (a : Int), .int .i64 (b : Int), .int .i64 (c : Int), .int .i64 (d : Int)] 79)).alloc (.cells #[.func (.func 199) #[] #[.pointer (some ⟨w.heap.size, 0, none⟩), .pointer (some ⟨w.heap.size + 1, 0, none⟩)]] 83)) := by
    have key : ∀ W : World, (store ⟨W.heap.size, 0, none⟩ (.func (.func 199) #[] #[.pointer (some ⟨w.heap.size, 0, none⟩), .pointer (some ⟨w.heap.size + 1, 0, none⟩)])).run Tryz.prog (W.alloc (.cells #[.nilFunc] 83)) = .ok () (W.alloc (.cells #[.func (.func 199) #[] #[.pointer (some ⟨w.heap.size, 0, none⟩), .pointer (some ⟨w.heap.size + 1, 0, none⟩)]] 83)) := by
      intro W
      rw [run_store Tryz.prog _ _ _ _ (by rfl)]
      simp
      go_simp
    have k2 := key ((w.alloc (.cells #[ptr bf] 91)).alloc (.cells #[.int .i64 (a : Int), .int .i64 (b : Int), .int .i64 (c : Int), .int .i64 (d : Int)] 79))
    rw [World.size_alloc, World.size_alloc] at k2
    exact k2
  gi_wp2
  clear st
  obtain ⟨w0, hw0⟩ : ∃ w0, (((w.alloc (.cells #[ptr bf] 91)).alloc (.cells #[.int .i64 (a : Int), .int .i64 (b : Int), .int .i64 (c : Int), .int .i64 (d : Int)] 79)).alloc (.cells #[.func (.func 199) #[] #[.pointer (some ⟨w.heap.size, 0, none⟩), .pointer (some ⟨w.heap.size + 1, 0, none⟩)]] 83)).alloc (.cells #[.slice none 0 0] 24) = w0 := ⟨_, rfl⟩
  have hb0 : Below w.heap.size w w0 := by rw [← hw0]; exact ((((Below.refl _ w).alloc (Nat.le_refl _) _).alloc (by simp) _).alloc (by simp only [World.size_alloc]; omega) _).alloc (by simp only [World.size_alloc]; omega) _
  have hsz0 : w0.heap.size = w.heap.size + 4 := by rw [← hw0]; simp
  have y0 : w0.heap[w.heap.size]? = some (.cells #[ptr bf] 91 (0, 0)) := by
    rw [← hw0, Below.heap_alloc _ _ _ (by simp only [World.size_alloc]; omega), Below.heap_alloc _ _ _ (by simp only [World.size_alloc]; omega), Below.heap_alloc _ _ _ (by simp), heap_alloc_new]
  have y1 : w0.heap[w.heap.size + 1]? = some (.cells #[.int .i64 (a : Int), .int .i64 (b : Int), .int .i64 (c : Int), .int .i64 (d : Int)] 79 (0, 0)) := by
    rw [← hw0, Below.heap_alloc _ _ _ (by simp only [World.size_alloc]; omega), Below.heap_alloc _ _ _ (by simp)]
    have := heap_alloc_new (w.alloc (.cells #[ptr bf] 91)) (.cells #[.int .i64 (a : Int), .int .i64 (b : Int), .int .i64 (c : Int), .int .i64 (d : Int)] 79)
    rwa [World.size_alloc] at this
  have y2 : w0.heap[w.heap.size + 2]? = some (.cells #[.func (.func 199) #[] #[.pointer (some ⟨w.heap.size, 0, none⟩), .pointer (some ⟨w.heap.size + 1, 0, none⟩)]] 83 (0, 0)) := by
    rw [← hw0, Below.heap_alloc _ _ _ (by simp)]
    have := heap_alloc_new ((w.alloc (.cells #[ptr bf] 91)).alloc (.cells #[.int .i64 (a : Int), .int .i64 (b : Int), .int .i64 (c : Int), .int .i64 (d : Int)] 79)) (.cells #[.func (.func 199) #[] #[.pointer (some ⟨w.heap.size, 0, none⟩), .pointer (some ⟨w.heap.size + 1, 0, none⟩)]] 83)
    rwa [World.size_alloc, World.size_alloc] at this
  have y3 : w0.heap[w.heap.size + 3]? = some (.cells #[.slice none 0 0] 24 (0, 0)) := by
    rw [← hw0]
    have := heap_alloc_new (((w.alloc (.cells #[ptr bf] 91)).alloc (.cells #[.int .i64 (a : Int), .int .i64 (b : Int), .int .i64 (c : Int), .int .i64 (d : Int)] 79)).alloc (.cells #[.func (.func 199) #[] #[.pointer (some ⟨w.heap.size, 0, none⟩), .pointer (some ⟨w.heap.size + 1, 0, none⟩)]] 83)) (.cells #[.slice none 0 0] 24)
    rwa [World.size_alloc, World.size_alloc, World.size_alloc] at this
  rw [hw0]
  have e0 : w0.cell? ⟨w.heap.size, 0, none⟩ = some (ptr bf) := cell_of_heap y0 0
  have e1 : w0.cell? ⟨w.heap.size + 1, 0, none⟩ = some (.int .i64 (a : Int)) := cell_of_heap y1 0
  have HH := hid (And.intro hb0 (And.intro hsz0 (And.intro y0 (And.intro y1 (And.intro y2 (And.intro y3 hw0))))))
  clear hb0 hsz0 y0 y1 y2 y3 hw0
  refine wpIn_wide.2 ?_
  go_region_held3 (fun w' => w'.cell? ⟨w.heap.size, 0, none⟩ = some (ptr bf) ∧ w'.cell? ⟨w.heap.size + 1, 0, none⟩ = some (.int .i64 (a : Int))) (first | exact KP.out | go_keep) (first
    | (go_at_call 99; refine (CT.out _ (by first | exact HH.out.1 | exact HH.out.1.drew)).mono ?_; rintro e w3 ⟨rfl, hw3⟩; replace hw3 := hw3.symm; subst hw3)
    | (go_at_call 90; refine (C.out _).mono ?_; rintro e w3 ⟨rfl, hw3⟩; replace hw3 := hw3.symm; subst hw3))
  all_goals
    gi_wp2
    obtain ⟨wb, hwb⟩ : ∃ wb, ((w0.alloc (.cells #[ptr bf] 91)).alloc (.cells #[.int .i64 (t : Int)] 3)).drew = wb := ⟨_, rfl⟩
    obtain ⟨hb0, hsz0, y0, y1, y2, y3, _⟩ := HH.out
    have hszb : wb.heap.size = w.heap.size + 6 := by rw [← hwb]; simp [hsz0]
    have hb1 : Below w0.heap.size w0 wb := by rw [← hwb]; exact (((Below.refl _ w0).alloc (Nat.le_refl _) _).alloc (by simp) _).drew
    have hbb : Below w.heap.size w wb := hb0.trans (hb1.mono hb0.size)
    have x0 := (hb1.block _ (heap_lt y0)).trans y0
    have x1 := (hb1.block _ (heap_lt y1)).trans y1
    have x2 := (hb1.block _ (heap_lt y2)).trans y2
    have x3 := (hb1.block _ (heap_lt y3)).trans y3
    have x4 : wb.heap[w0.heap.size]? = some (.cells #[ptr bf] 91 (0, 0)) := by
      have h1 : ((w0.alloc (.cells #[ptr bf] 91)).alloc (.cells #[.int .i64 (t : Int)] 3)).heap[w0.heap.size]? = some (.cells #[ptr bf] 91 (0, 0)) := by
        rw [Below.heap_alloc _ _ _ (by simp)]
        exact heap_alloc_new w0 _
      rw [← hwb]; exact h1
    have x5 : wb.heap[w0.heap.size + 1]? = some (.cells #[.int .i64 (t : Int)] 3 (0, 0)) := by
      have h1 := heap_alloc_new (w0.alloc (.cells #[ptr bf] 91)) (.cells #[.int .i64 (t : Int)] 3)
      rw [World.size_alloc] at h1
      rw [← hwb]; exact h1
    rw [hwb]
    rw [hsz0] at x4 x5
    simp only [hsz0]
    have hDb := HD.out.below hbb
    have hHt := u.le t
    refine range_mine (gf := 138) (lb := #[ptr (w.heap.size + 4 + 1), ptr (w.heap.size + 4)]) rfl (enters_of Tryz.func138 (by kernel_rfl) rfl) rfl (O := fun k => k = w.heap.size + 3) (fun k e => by omega)
      (all1_ok wf u (B + 1) t ta.lt (by omega) wb _ _ _ hDb (fun k hk => ⟨by have := hk.2; omega, by have := hk.2; omega⟩) (cell_of_heap x5 0) (cell_of_heap x4 0) (by omega) (by omega))
      (fun pre O3 W => ∃ v, O3 = (fun k => k = w.heap.size + 3 ∨ v.ownBlock = some k) ∧ W.heap[w.heap.size + 3]? = some (.cells #[v] 24 (0, 0)) ∧ W.ownsRow 0 3 1 v (leaveF s (plF s (B + 1) t) a b c d pre).length (intsV (leaveF s (plF s (B + 1) t) a b c d pre)) ∧ v.ownBlock ≠ some (w.heap.size + 3) ∧ Stp (fun k => k = w.heap.size + 3) O3 wb W)
      (fun _ _ _ => False) ?mI ?mIx ?h0
      (fun y => Act.mk #[ptr bf, spV { a := a, b := b, c := c, d := d }, Value.pointer (some { block := w.heap.size, off := 0 }),
          Value.pointer (some { block := w.heap.size + 1, off := 0 }), Value.slice none 0 0,
          Value.pointer (some { block := w.heap.size + 1 + 1, off := 0 }), Value.pointer (some { block := w.heap.size + 1 + 1 + 1, off := 0 }), .int .i64 (y : Int),
          Value.func (Fn.func 199) #[] #[Value.pointer (some { block := w.heap.size, off := 0 }), Value.pointer (some { block := w.heap.size + 1, off := 0 })],
          ptr bf, ptr bf, Value.pointer (some { block := w.heap.size + 1, off := 0 }),
          Value.pointer (some { block := w.heap.size + 1, off := 0 }), Value.int IntKind.i64 a, Value.int IntKind.i64 t,
          Value.func (Fn.func 138) #[] #[ptr (w.heap.size + 4 + 1), ptr (w.heap.size + 4)], .int .i64 (y : Int), undef, undef, undef, undef, undef, undef, undef, undef, undef, undef, undef, undef, undef, undef, undef, undef, undef, undef, undef, undef, undef] []) ?assign ?body ?done ?stop
    case mI =>
      rintro pre O3 X Y ⟨v, rfl, h2, h3, h4, h5⟩ hk
      exact ⟨v, rfl, by rw [hk.block _ (heap_lt h2) (fun e => e.1 (.inl rfl))]; exact h2, hk.row h3 (fun b e e2 => e2.1 (.inr e)), h4, stp_mine (Nat.le_refl _) h5 hk⟩
    case mIx => intro pre O3 X Y h _; exact h
    case h0 =>
      refine ⟨.slice none 0 0, ?_, x3, World.ownsRow_nil _ _ _ _, by simp [Value.ownBlock], ?_⟩
      · funext k; simp [Value.ownBlock]
      · exact Stp.refl (fun k e => by omega)
    case assign =>
      intro m l' y W K hK
      dsimp only [encN]
      gi_wp2
      exact hK
    case body =>
      rintro m l' pre y O3 W hpre hO3 ⟨v, rfl, h2, h3, h4, h5⟩
      have hyall : y ∈ allF s (B + 1) t := hpre.subset (by simp)
      have hyl : y < s.length := all_lt wf (B + 1) t ta.lt y hyall
      obtain ⟨x, hx⟩ : ∃ x, s[y]? = some x := ⟨_, List.getElem?_eq_getElem hyl⟩
      have hty : IsTop s y t := ⟨all_climb wf (B + 1) t y hyall, ta.2⟩
      have hO3' : ∀ k, (k = w.heap.size + 3 ∨ v.ownBlock = some k) → ¬ k < w.heap.size + 3 := fun k e => by
        rcases h5.gains k e with e1 | e1 <;> omega
      have hDW := hDb.keeps h5.keeps (fun k hk e => by have := hk.2; omega)
      have z0 : W.heap[w.heap.size]? = some (.cells #[ptr bf] 91 (0, 0)) := by
        rw [h5.keeps.block _ (heap_lt x0) (by simp)]; exact x0
      have z1 : W.heap[w.heap.size + 1]? = some (.cells #[.int .i64 (a : Int), .int .i64 (b : Int), .int .i64 (c : Int), .int .i64 (d : Int)] 79 (0, 0)) := by
        rw [h5.keeps.block _ (heap_lt x1) (by simp)]; exact x1
      have z2 : W.heap[w.heap.size + 2]? = some (.cells #[.func (.func 199) #[] #[.pointer (some ⟨w.heap.size, 0, none⟩), .pointer (some ⟨w.heap.size + 1, 0, none⟩)]] 83 (0, 0)) := by
        rw [h5.keeps.block _ (heap_lt x2) (by simp)]; exact x2
      have g0 : W.cell? ⟨w.heap.size, 0, none⟩ = some (ptr bf) := cell_of_heap z0 0
      have g2 : W.cell? ⟨w.heap.size + 1 + 1, 0, none⟩ = some (.func (.func 199) #[] #[.pointer (some ⟨w.heap.size, 0, none⟩), .pointer (some ⟨w.heap.size + 1, 0, none⟩)]) := cell_of_heap z2 0
      have g3 : W.cell? ⟨w.heap.size + 1 + 1 + 1, 0, none⟩ = some v := cell_of_heap h2 0
      obtain ⟨r, hr, ho, d0, d1, d2, d3⟩ := hDW.look hx
      have n0 := hDW.nodesCell
      have hfl := hDW.lt
      have hlW : w.heap.size + 6 ≤ W.heap.size := by have := h5.keeps.size; omega
      have CY := hid (fun W2 (hB : Below W.heap.size W W2) => in1_any wf u (hDW.below hB) a b c d t y w.heap.size (w.heap.size + 1) ha hc hyl ta tc hty hb hd ((hB.cell (p := ⟨w.heap.size, 0, none⟩) (by simp only; omega)).trans g0) ((hB.block _ (heap_lt z1)).trans z1))
      have hsn := leaveF_snoc s (plF s (B + 1) t) a b c d pre y
      have hgo : goesB s (plF s (B + 1) t) a b c d y = (insB s (plF s (B + 1) t) a b c d y && !insB s (plF s (B + 1) t) a b c d (parOf s y).toNat) := rfl
      obtain ⟨ib, hib⟩ : ∃ ib, insB s (plF s (B + 1) t) a b c d y = ib := ⟨_, rfl⟩
      rw [hib] at CY hgo
      have hylI : (y : Int) < (s.length : Int) := by omega
      have KEEP := hid (fun W2 (hB : Below W.heap.size W W2) => And.intro ((hB.cell (p := ⟨w.heap.size, 0, none⟩) (by simp only; omega)).trans g0) (And.intro ((hB.cell (p := ⟨w.heap.size + 1 + 1, 0, none⟩) (by simp only; omega)).trans g2) (And.intro ((hB.cell (p := ⟨bf, 0, none⟩) hfl.1).trans n0) (And.intro ((hB.cell (p := ⟨bn, y * 4, none⟩) hfl.2).trans d0) ((hB.cell (p := ⟨w.heap.size + 1 + 1 + 1, 0, none⟩) (by simp only; omega)).trans g3)))))
      have HALL := hid (And.intro h2 (And.intro h3 (And.intro h4 (And.intro h5 (And.intro hO3 (And.intro hO3' hsn))))))
      have HBW := hid (Below.refl W.heap.size W)
      cases ib with
      | false =>
        rw [Bool.false_and] at hgo
        have HGO := hid hgo
        clear h2 h3 h4 h5 hO3 hO3' hsn hDW z0 z1 z2 hr ho d1 d2 d3 hpre hyall x0 x1 x2 x3 x4 x5 hDb hb1 y0 y1 y2 y3 hb0 hwb HH HD C CT e0 e1 hgo hib hty
        gi_wp2
        refine region_round (fun w' => w'.cell? ⟨w.heap.size, 0, none⟩ = some (ptr bf) ∧ w'.cell? ⟨w.heap.size + 1 + 1, 0, none⟩ = some (.func (.func 199) #[] #[.pointer (some ⟨w.heap.size, 0, none⟩), .pointer (some ⟨w.heap.size + 1, 0, none⟩)]) ∧ w'.cell? ⟨bf, 0, none⟩ = some (.slice (some ⟨bn, 0, none⟩) s.length cap) ∧ w'.cell? ⟨bn, y * 4, none⟩ = some (.int .i64 x.p) ∧ w'.cell? ⟨w.heap.size + 1 + 1 + 1, 0, none⟩ = some v) (by kernel_rfl) (by kernel_rfl) (fun ⟨_, _, h⟩ => h) (KEEP.out _ (Below.refl _ W).drew) (fun hHeld => ?_)
        refine take_to (i := 0) 17 (v := (.func (.func 199) #[] #[.pointer (some ⟨w.heap.size, 0, none⟩), .pointer (some ⟨w.heap.size + 1, 0, none⟩)])) rfl rfl (by kernel_rfl) (by kernel_rfl) (by kernel_rfl) (fun _ _ _ h => h) (Or.inl ⟨by rfl, ?_⟩) (by assumption) ?_
        · intro w2 hS2; obtain ⟨t0, t1, t2, t3, t4⟩ := hS2; first | (go_simp; done) | (go_simp; with_reducible rfl)
        simp only [List.setIfInBounds_toArray, List.set_cons_zero, List.set_cons_succ]
        refine take_to (i := 1) 18 (v := .int .i64 (y : Int)) rfl rfl (by kernel_rfl) (by kernel_rfl) (by kernel_rfl) (fun _ _ _ h => h) (Or.inl ⟨by rfl, ?_⟩) (by assumption) ?_
        · intro w2 hS2; obtain ⟨t0, t1, t2, t3, t4⟩ := hS2; first | (go_simp; done) | (go_simp; with_reducible rfl)
        simp only [List.setIfInBounds_toArray, List.set_cons_zero, List.set_cons_succ]
        refine wpAnyH_ready (rs := [2]) (by kernel_rfl) (by simp) ?_
        refine AllReadyH.cons (i := 2) rfl (fun K hK => ?_) AllReadyH.nil
        go_simp
        refine (CY.out _ ?_).mono ?_
        · first | exact HBW.out | exact HBW.out.drew | exact below_drewN HBW.out _
        rintro e w6 ⟨rfl, hbx⟩
        have HB6 := hid (show Below W.heap.size W w6 from ⟨hbx.os.trans HBW.out.os, hbx.tape.trans HBW.out.tape, hbx.output.trans HBW.out.output, Nat.le_trans HBW.out.size hbx.size, fun k hk => (hbx.block k (Nat.lt_of_lt_of_le hk HBW.out.size)).trans (HBW.out.block k hk)⟩)
        clear hbx
        dsimp only
        refine hK.out _ _ (KEEP.out _ HB6.out) (fun hHeld => ?_)
        clear hK K
        try simp only [Act.put, List.setIfInBounds_toArray, List.set_cons_zero, List.set_cons_succ]
        refine take_to (i := 3) 20 (v := .bool false) rfl rfl (by kernel_rfl) (by kernel_rfl) (by kernel_rfl) (fun _ _ _ h => h) (Or.inl ⟨by rfl, ?_⟩) (by assumption) ?_
        · intro w2 hS2; obtain ⟨t0, t1, t2, t3, t4⟩ := hS2; first | (go_simp; done) | (go_simp; with_reducible rfl)
        simp only [List.setIfInBounds_toArray, List.set_cons_zero, List.set_cons_succ]
        refine take_to (i := 4) 21 (v := undef) rfl rfl (by kernel_rfl) (by kernel_rfl) (by kernel_rfl) (fun _ _ _ h => h) (Or.inr ⟨by rfl, rfl⟩) (by assumption) ?_
        simp only [List.setIfInBounds_toArray, List.set_cons_zero, List.set_cons_succ]
        refine take_to (i := 5) 22 (v := undef) rfl rfl (by kernel_rfl) (by kernel_rfl) (by kernel_rfl) (fun _ _ _ h => h) (Or.inr ⟨by rfl, rfl⟩) (by assumption) ?_
        simp only [List.setIfInBounds_toArray, List.set_cons_zero, List.set_cons_succ]
        refine take_to (i := 6) 23 (v := undef) rfl rfl (by kernel_rfl) (by kernel_rfl) (by kernel_rfl) (fun _ _ _ h => h) (Or.inr ⟨by rfl, rfl⟩) (by assumption) ?_
        simp only [List.setIfInBounds_toArray, List.set_cons_zero, List.set_cons_succ]
        refine take_to (i := 7) 24 (v := undef) rfl rfl (by kernel_rfl) (by kernel_rfl) (by kernel_rfl) (fun _ _ _ h => h) (Or.inr ⟨by rfl, rfl⟩) (by assumption) ?_
        simp only [List.setIfInBounds_toArray, List.set_cons_zero, List.set_cons_succ]
        refine take_to (i := 8) 25 (v := undef) rfl rfl (by kernel_rfl) (by kernel_rfl) (by kernel_rfl) (fun _ _ _ h => h) (Or.inr ⟨by rfl, rfl⟩) (by assumption) ?_
        simp only [List.setIfInBounds_toArray, List.set_cons_zero, List.set_cons_succ]
        refine take_to (i := 9) 26 (v := undef) rfl rfl (by kernel_rfl) (by kernel_rfl) (by kernel_rfl) (fun _ _ _ h => h) (Or.inr ⟨by rfl, rfl⟩) (by assumption) ?_
        simp only [List.setIfInBounds_toArray, List.set_cons_zero, List.set_cons_succ]
        refine take_to (i := 10) 27 (v := undef) rfl rfl (by kernel_rfl) (by kernel_rfl) (by kernel_rfl) (fun _ _ _ h => h) (Or.inr ⟨by rfl, rfl⟩) (by assumption) ?_
        simp only [List.setIfInBounds_toArray, List.set_cons_zero, List.set_cons_succ]
        refine take_to (i := 11) 28 (v := undef) rfl rfl (by kernel_rfl) (by kernel_rfl) (by kernel_rfl) (fun _ _ _ h => h) (Or.inr ⟨by rfl, rfl⟩) (by assumption) ?_
        simp only [List.setIfInBounds_toArray, List.set_cons_zero, List.set_cons_succ]
        refine take_to (i := 12) 29 (v := undef) rfl rfl (by kernel_rfl) (by kernel_rfl) (by kernel_rfl) (fun _ _ _ h => h) (Or.inr ⟨by rfl, rfl⟩) (by assumption) ?_
        simp only [List.setIfInBounds_toArray, List.set_cons_zero, List.set_cons_succ]
        refine take_to (i := 13) 30 (v := undef) rfl rfl (by kernel_rfl) (by kernel_rfl) (by kernel_rfl) (fun _ _ _ h => h) (Or.inr ⟨by rfl, rfl⟩) (by assumption) ?_
        simp only [List.setIfInBounds_toArray, List.set_cons_zero, List.set_cons_succ]
        refine take_to (i := 14) 31 (v := undef) rfl rfl (by kernel_rfl) (by kernel_rfl) (by kernel_rfl) (fun _ _ _ h => h) (Or.inr ⟨by rfl, rfl⟩) (by assumption) ?_
        simp only [List.setIfInBounds_toArray, List.set_cons_zero, List.set_cons_succ]
        refine take_to (i := 15) 32 (v := .bool false) rfl rfl (by kernel_rfl) (by kernel_rfl) (by kernel_rfl) (fun _ _ _ h => h) (Or.inl ⟨by rfl, ?_⟩) (by assumption) ?_
        · intro w2 hS2; obtain ⟨t0, t1, t2, t3, t4⟩ := hS2; first | (go_simp; done) | (go_simp; with_reducible rfl)
        simp only [List.setIfInBounds_toArray, List.set_cons_zero, List.set_cons_succ]
        refine wpAnyH_done (by kernel_rfl) ?_ _
        have hs6 : Stp (fun k => k = w.heap.size + 3 ∨ v.ownBlock = some k) (fun k => k = w.heap.size + 3 ∨ v.ownBlock = some k) W w6 := ⟨Keeps.of_below HB6.out, fun k e => .inl e, fun k e => Nat.lt_of_lt_of_le (HALL.out.2.2.2.2.1 k e) HB6.out.size⟩
        gi_wp2
        obtain ⟨h2, h3, h4, h5, hO3, hO3', hsn⟩ := HALL.out
        rw [HGO.out, if_neg (by decide), List.append_nil] at hsn
        refine ⟨_, hs6, v, rfl, (HB6.out.block _ (heap_lt h2)).trans h2, ?_, h4, h5.trans hs6⟩
        rw [hsn]
        exact (Keeps.of_below (F := fun _ => False) HB6.out).row h3 (fun _ _ e => e)
      | true =>
        obtain ⟨j, m', y', hj, hy, hm', hno, hyl'⟩ := wf.place hx (by obtain ⟨x', hx', hp'⟩ := insB_par hib; rw [hx] at hx'; cases hx'; exact hp')
        have hjl : j < s.length := (List.getElem?_eq_some_iff.1 hy).1
        have hpj : (parOf s y).toNat = j := by simp [parOf, hx, hj]
        rw [hpj, Bool.true_and] at hgo
        have CJ := hid (fun W2 (hB : Below W.heap.size W W2) => in1_any wf u (hDW.below hB) a b c d t j w.heap.size (w.heap.size + 1) ha hc hjl ta tc (hty.par hx hj) hb hd ((hB.cell (p := ⟨w.heap.size, 0, none⟩) (by simp only; omega)).trans g0) ((hB.block _ (heap_lt z1)).trans z1))
        obtain ⟨jb, hjb⟩ : ∃ jb, insB s (plF s (B + 1) t) a b c d j = jb := ⟨_, rfl⟩
        rw [hjb] at CJ hgo
        rw [hj] at d0 KEEP
        have HGO := hid hgo
        have HLN : Hid ((leaveF s (plF s (B + 1) t) a b c d pre).length + 1 < 100) := by
          have h8 := leave_len s (plF s (B + 1) t) a b c d pre
          have h9 := hpre.length_le
          have h7 := all_length wf (B + 1) t ta.lt
          simp at h9
          show _ < _
          omega
        clear h2 h3 h4 h5 hO3 hO3' hsn hDW z0 z1 z2 hr ho d1 d2 d3 hpre hyall x0 x1 x2 x3 x4 x5 hDb hb1 y0 y1 y2 y3 hb0 hwb HH HD C CT e0 e1 hgo hib hty hy hm' hno hjb hpj
        gi_wp2
        refine region_round (fun w' => w'.cell? ⟨w.heap.size, 0, none⟩ = some (ptr bf) ∧ w'.cell? ⟨w.heap.size + 1 + 1, 0, none⟩ = some (.func (.func 199) #[] #[.pointer (some ⟨w.heap.size, 0, none⟩), .pointer (some ⟨w.heap.size + 1, 0, none⟩)]) ∧ w'.cell? ⟨bf, 0, none⟩ = some (.slice (some ⟨bn, 0, none⟩) s.length cap) ∧ w'.cell? ⟨bn, y * 4, none⟩ = some (.int .i64 (j : Int)) ∧ w'.cell? ⟨w.heap.size + 1 + 1 + 1, 0, none⟩ = some v) (by kernel_rfl) (by kernel_rfl) (fun ⟨_, _, h⟩ => h) (KEEP.out _ (Below.refl _ W).drew) (fun hHeld => ?_)
        refine take_to (i := 0) 17 (v := (.func (.func 199) #[] #[.pointer (some ⟨w.heap.size, 0, none⟩), .pointer (some ⟨w.heap.size + 1, 0, none⟩)])) rfl rfl (by kernel_rfl) (by kernel_rfl) (by kernel_rfl) (fun _ _ _ h => h) (Or.inl ⟨by rfl, ?_⟩) (by assumption) ?_
        · intro w2 hS2; obtain ⟨t0, t1, t2, t3, t4⟩ := hS2; first | (go_simp; done) | (go_simp; with_reducible rfl)
        simp only [List.setIfInBounds_toArray, List.set_cons_zero, List.set_cons_succ]
        refine take_to (i := 1) 18 (v := .int .i64 (y : Int)) rfl rfl (by kernel_rfl) (by kernel_rfl) (by kernel_rfl) (fun _ _ _ h => h) (Or.inl ⟨by rfl, ?_⟩) (by assumption) ?_
        · intro w2 hS2; obtain ⟨t0, t1, t2, t3, t4⟩ := hS2; first | (go_simp; done) | (go_simp; with_reducible rfl)
        simp only [List.setIfInBounds_toArray, List.set_cons_zero, List.set_cons_succ]
        refine wpAnyH_ready (rs := [2]) (by kernel_rfl) (by simp) ?_
        refine AllReadyH.cons (i := 2) rfl (fun K hK => ?_) AllReadyH.nil
        go_simp
        refine (CY.out _ ?_).mono ?_
        · first | exact HBW.out | exact HBW.out.drew | exact below_drewN HBW.out _
        rintro e w6 ⟨rfl, hbx⟩
        have HB6 := hid (show Below W.heap.size W w6 from ⟨hbx.os.trans HBW.out.os, hbx.tape.trans HBW.out.tape, hbx.output.trans HBW.out.output, Nat.le_trans HBW.out.size hbx.size, fun k hk => (hbx.block k (Nat.lt_of_lt_of_le hk HBW.out.size)).trans (HBW.out.block k hk)⟩)
        clear hbx
        dsimp only
        refine hK.out _ _ (KEEP.out _ HB6.out) (fun hHeld => ?_)
        clear hK K
        try simp only [Act.put, List.setIfInBounds_toArray, List.set_cons_zero, List.set_cons_succ]
        refine take_to (i := 3) 20 (v := .bool true) rfl rfl (by kernel_rfl) (by kernel_rfl) (by kernel_rfl) (fun _ _ _ h => h) (Or.inl ⟨by rfl, ?_⟩) (by assumption) ?_
        · intro w2 hS2; obtain ⟨t0, t1, t2, t3, t4⟩ := hS2; first | (go_simp; done) | (go_simp; with_reducible rfl)
        simp only [List.setIfInBounds_toArray, List.set_cons_zero, List.set_cons_succ]
        refine take_to (i := 4) 21 (v := (.func (.func 199) #[] #[.pointer (some ⟨w.heap.size, 0, none⟩), .pointer (some ⟨w.heap.size + 1, 0, none⟩)])) rfl rfl (by kernel_rfl) (by kernel_rfl) (by kernel_rfl) (fun _ _ _ h => h) (Or.inl ⟨by rfl, ?_⟩) (by assumption) ?_
        · intro w2 hS2; obtain ⟨t0, t1, t2, t3, t4⟩ := hS2; first | (go_simp; done) | (go_simp; with_reducible rfl)
        simp only [List.setIfInBounds_toArray, List.set_cons_zero, List.set_cons_succ]
        refine take_to (i := 5) 22 (v := ptr bf) rfl rfl (by kernel_rfl) (by kernel_rfl) (by kernel_rfl) (fun _ _ _ h => h) (Or.inl ⟨by rfl, ?_⟩) (by assumption) ?_
        · intro w2 hS2; obtain ⟨t0, t1, t2, t3, t4⟩ := hS2; first | (go_simp; done) | (go_simp; with_reducible rfl)
        simp only [List.setIfInBounds_toArray, List.set_cons_zero, List.set_cons_succ]
        refine take_to (i := 6) 23 (v := ptr bf) rfl rfl (by kernel_rfl) (by kernel_rfl) (by kernel_rfl) (fun _ _ _ h => h) (Or.inl ⟨by rfl, ?_⟩) (by assumption) ?_
        · intro w2 hS2; obtain ⟨t0, t1, t2, t3, t4⟩ := hS2; first | (go_simp; done) | (go_simp; with_reducible rfl)
        simp only [List.setIfInBounds_toArray, List.set_cons_zero, List.set_cons_succ]
        refine take_to (i := 7) 24 (v := .pointer (some ⟨bf, 0, none⟩)) rfl rfl (by kernel_rfl) (by kernel_rfl) (by kernel_rfl) (fun _ _ _ h => h) (Or.inl ⟨by rfl, ?_⟩) (by assumption) ?_
        · intro w2 hS2; obtain ⟨t0, t1, t2, t3, t4⟩ := hS2; first | (go_simp; done) | (go_simp; with_reducible rfl)
        simp only [List.setIfInBounds_toArray, List.set_cons_zero, List.set_cons_succ]
        refine take_to (i := 8) 25 (v := .slice (some ⟨bn, 0, none⟩) s.length cap) rfl rfl (by kernel_rfl) (by kernel_rfl) (by kernel_rfl) (fun _ _ _ h => h) (Or.inl ⟨by rfl, ?_⟩) (by assumption) ?_
        · intro w2 hS2; obtain ⟨t0, t1, t2, t3, t4⟩ := hS2; first | (go_simp; done) | (go_simp; with_reducible rfl)
        simp only [List.setIfInBounds_toArray, List.set_cons_zero, List.set_cons_succ]
        refine take_to (i := 9) 26 (v := .int .i64 (y : Int)) rfl rfl (by kernel_rfl) (by kernel_rfl) (by kernel_rfl) (fun _ _ _ h => h) (Or.inl ⟨by rfl, ?_⟩) (by assumption) ?_
        · intro w2 hS2; obtain ⟨t0, t1, t2, t3, t4⟩ := hS2; first | (go_simp; done) | (go_simp; with_reducible rfl)
        simp only [List.setIfInBounds_toArray, List.set_cons_zero, List.set_cons_succ]
        refine take_to (i := 10) 27 (v := .pointer (some ⟨bn, y * 4, none⟩)) rfl rfl (by kernel_rfl) (by kernel_rfl) (by kernel_rfl) (fun _ _ _ h => h) (Or.inl ⟨by rfl, ?_⟩) (by assumption) ?_
        · intro w2 hS2; obtain ⟨t0, t1, t2, t3, t4⟩ := hS2; first | (go_simp; done) | (go_simp; with_reducible rfl)
        simp only [List.setIfInBounds_toArray, List.set_cons_zero, List.set_cons_succ]
        refine take_to (i := 11) 28 (v := .pointer (some ⟨bn, y * 4, none⟩)) rfl rfl (by kernel_rfl) (by kernel_rfl) (by kernel_rfl) (fun _ _ _ h => h) (Or.inl ⟨by rfl, ?_⟩) (by assumption) ?_
        · intro w2 hS2; obtain ⟨t0, t1, t2, t3, t4⟩ := hS2; first | (go_simp; done) | (go_simp; with_reducible rfl)
        simp only [List.setIfInBounds_toArray, List.set_cons_zero, List.set_cons_succ]
        refine take_to (i := 12) 29 (v := .int .i64 (j : Int)) rfl rfl (by kernel_rfl) (by kernel_rfl) (by kernel_rfl) (fun _ _ _ h => h) (Or.inl ⟨by rfl, ?_⟩) (by assumption) ?_
        · intro w2 hS2; obtain ⟨t0, t1, t2, t3, t4⟩ := hS2; first | (go_simp; done) | (go_simp; with_reducible rfl)
        simp only [List.setIfInBounds_toArray, List.set_cons_zero, List.set_cons_succ]
        refine wpAnyH_ready (rs := [13]) (by kernel_rfl) (by simp) ?_
        refine AllReadyH.cons (i := 13) rfl (fun K hK => ?_) AllReadyH.nil
        go_simp
        refine (CJ.out _ ?_).mono ?_
        · first | exact HB6.out | exact HB6.out.drew | exact below_drewN HB6.out _
        rintro e w7 ⟨rfl, hbx⟩
        have HB7 := hid (show Below W.heap.size W w7 from ⟨hbx.os.trans HB6.out.os, hbx.tape.trans HB6.out.tape, hbx.output.trans HB6.out.output, Nat.le_trans HB6.out.size hbx.size, fun k hk => (hbx.block k (Nat.lt_of_lt_of_le hk HB6.out.size)).trans (HB6.out.block k hk)⟩)
        clear hbx
        dsimp only
        refine hK.out _ _ (KEEP.out _ HB7.out) (fun hHeld => ?_)
        clear hK K
        try simp only [Act.put, List.setIfInBounds_toArray, List.set_cons_zero, List.set_cons_succ]
        refine take_to (i := 14) 31 (v := .bool (!jb)) rfl rfl (by kernel_rfl) (by kernel_rfl) (by kernel_rfl) (fun _ _ _ h => h) (Or.inl ⟨by rfl, ?_⟩) (by assumption) ?_
        · intro w2 hS2; obtain ⟨t0, t1, t2, t3, t4⟩ := hS2; first | (go_simp; done) | (go_simp; with_reducible rfl)
        simp only [List.setIfInBounds_toArray, List.set_cons_zero, List.set_cons_succ]
        refine take_to (i := 15) 32 (v := .bool (!jb)) rfl rfl (by kernel_rfl) (by kernel_rfl) (by kernel_rfl) (fun _ _ _ h => h) (Or.inl ⟨by rfl, ?_⟩) (by assumption) ?_
        · intro w2 hS2; obtain ⟨t0, t1, t2, t3, t4⟩ := hS2; first | (go_simp; done) | (go_simp; with_reducible rfl)
        simp only [List.setIfInBounds_toArray, List.set_cons_zero, List.set_cons_succ]
        refine wpAnyH_done (by kernel_rfl) ?_ _
        obtain ⟨t0, t1, t2, t3, t4⟩ := KEEP.out _ HB7.out
        have hs7 : Stp (fun k => k = w.heap.size + 3 ∨ v.ownBlock = some k) (fun k => k = w.heap.size + 3 ∨ v.ownBlock = some k) W w7 := ⟨Keeps.of_below HB7.out, fun k e => .inl e, fun k e => Nat.lt_of_lt_of_le (HALL.out.2.2.2.2.1 k e) HB7.out.size⟩
        cases jb with
        | true =>
          simp only [Bool.not_true]
          gi_wp2
          obtain ⟨h2, h3, h4, h5, hO3, hO3', hsn⟩ := HALL.out
          rw [HGO.out, Bool.not_true, if_neg (by decide), List.append_nil] at hsn
          refine ⟨_, hs7, v, rfl, (HB7.out.block _ (heap_lt h2)).trans h2, ?_, h4, h5.trans hs7⟩
          rw [hsn]
          exact (Keeps.of_below (F := fun _ => False) HB7.out).row h3 (fun _ _ e => e)
        | false =>
          simp only [Bool.not_false]
          have H2 := hid ((HB7.out.block _ (heap_lt HALL.out.1)).trans HALL.out.1)
          have H3 := hid ((Keeps.of_below (F := fun _ => False) HB7.out).row HALL.out.2.1 (fun _ _ e => e))
          have hlW7 : w.heap.size + 3 < w7.heap.size := heap_lt H2.out
          have hll : (leaveF s (plF s (B + 1) t) a b c d pre).length + 1 < 100 := HLN.out
          have H4 := hid HALL.out.2.2.1
          have HS7 := hid hs7
          clear hs7
          gi_wp2_with (gi_at_builtin; refine wpListIn_append_own_at _ rfl _ _ 24 rfl 0 3 i0 (.int .i64 0) 1 8 Tryz.underlying24 hi hz0 hz1 hz2 rfl (by decide) v _ _ rfl (H3.out.alloc _) ⟨w7.heap.size, 0, none⟩ 1 1 [.int .i64 (y : Int)] rfl rfl (cell_one_new _ _ _) (by simp [Value.oneCell']) (by unfold maxLen; omega) (by omega) (Nat.zero_le _) ?_
                       intro v' w1 hown' hgrow _ hob
                       obtain ⟨g', cap', rfl⟩ := ownsRow_succ hown'
                       have hq1 := (hgrow.block (w.heap.size + 3) (by simp only [World.size_alloc]; omega) (fun e => H4.out e.symm)).trans ((Below.heap_alloc _ _ _ hlW7).trans H2.out)
                       have hc1 : w1.cell? ⟨w.heap.size + 1 + 1 + 1, 0, none⟩ = some v := cell_of_heap hq1 0
                       have hf1 : w1.frozen? ⟨w.heap.size + 1 + 1 + 1, 0, none⟩ = false := frozen_of_heap hq1 0
                       have HQ := hid hq1
                       have HW := hid hown'
                       have HG := hid hgrow
                       have HOB := hid hob
                       clear hown' hgrow hob hq1)
          obtain ⟨h2, h3, h4, h5, hO3, hO3', hsn⟩ := HALL.out
          rw [HGO.out, Bool.not_false, if_pos rfl] at hsn
          have hz7 := HS7.out.keeps.size
          have hgb : v.ownBlock = some g' ∨ w7.heap.size ≤ g' := by
            rcases HOB.out with e | e
            · left; rw [← e]; rfl
            · right
              have e' : g' = w7.heap.size + 1 := by simpa [Value.ownBlock] using e
              omega
          have hg' : g' ≠ w.heap.size + 3 := by
            rcases hgb with e | e
            · rintro rfl; exact h4 e
            · omega
          have hs : Stp (fun k => k = w.heap.size + 3 ∨ v.ownBlock = some k) (fun k => k = w.heap.size + 3 ∨ (Value.slice (some ⟨g', 0, none⟩) ((leaveF s (plF s (B + 1) t) a b c d pre).length + 1) cap').ownBlock = some k) W (w1.setCell ⟨w.heap.size + 1 + 1 + 1, 0, none⟩ (.slice (some ⟨g', 0, none⟩) ((leaveF s (plF s (B + 1) t) a b c d pre).length + 1) cap')) := by
            refine ⟨?_, ?_, ?_⟩
            · exact ((((Keeps.of_below HB7.out).alloc _).trans (Keeps.grown HG.out (fun k e => .inl (.inl (.inr e))))).setCell (p := ⟨w.heap.size + 1 + 1 + 1, 0, none⟩) (.inl (.inl rfl)) _)
            · rintro k (e | e)
              · exact .inl (.inl e)
              · have e' : g' = k := by simpa [Value.ownBlock] using e
                subst e'
                rcases hgb with e | e
                · exact .inl (.inr e)
                · exact .inr (by omega)
            · have hz : (w1.setCell ⟨w.heap.size + 1 + 1 + 1, 0, none⟩ (.slice (some ⟨g', 0, none⟩) ((leaveF s (plF s (B + 1) t) a b c d pre).length + 1) cap')).heap.size = w1.heap.size := by simp
              rintro k (e | e)
              · rw [hz, e]; exact heap_lt HQ.out
              · have e' : g' = k := by simpa [Value.ownBlock] using e
                subst e'
                rw [hz]
                exact (HW.out.lt g' rfl).2
          refine ⟨_, hs, _, rfl, by rw [heap_setCell_same w1 _ 0 _ _ _ HQ.out]; rfl, ?_, by simpa [Value.ownBlock] using hg', h5.trans hs⟩
          have hrw := row_setCell_other HW.out (p := ⟨w.heap.size + 1 + 1 + 1, 0, none⟩) (by simpa [Value.ownBlock] using hg') (.slice (some ⟨g', 0, none⟩) ((leaveF s (plF s (B + 1) t) a b c d pre).length + 1) cap')
          rw [hsn, List.length_append]
          simpa [intsV] using hrw
    case done =>
      rintro O5 W st5 hn5 ⟨v, rfl, h2, h3, h4, h5⟩ hD5
      obtain ⟨sa, sc, hkv⟩ : ∃ a' c', v = .slice a' (leaveF s (plF s (B + 1) t) a b c d (allF s (B + 1) t)).length c' := by
        rcases row_cases h3 with ⟨e1, e2⟩ | ⟨g, c, e1⟩
        · exact ⟨none, 0, by rw [e1, e2]⟩
        · exact ⟨_, _, e1⟩
      subst hkv
      have f1 : W.cell? ⟨w.heap.size + 1 + 1 + 1, 0, none⟩ = some (.slice sa (leaveF s (plF s (B + 1) t) a b c d (allF s (B + 1) t)).length sc) := cell_of_heap h2 0
      have H := hid (And.intro st5 (And.intro hn5 (And.intro h3 (And.intro h4 hD5))))
      have HZ := hid hszb
      clear st5 hn5 h2 h3 h4 h5 hD5 x0 x1 x2 x3 x4 x5 hszb hDb hb1 y0 y1 y2 y3 hb0 hwb
      gi_wp2
      obtain ⟨st5, hn5, h3, h4, hD5⟩ := H.out
      have hszb := HZ.out
      refine leaves_marks [wb.heap.size] _ (by simp) (fun D hm => ?_) (fun w' hk' => ⟨.slice sa (leaveF s (plF s (B + 1) t) a b c d (allF s (B + 1) t)).length sc, ?_, sa, sc, rfl, ?_, ?_, ?_⟩)
      · obtain rfl : D = wb.heap.size := by simpa using hm
        exact hD5
      · exact results_tmp (fn := Tryz.f188) (t := 4) rfl _ _ _
      · refine hk'.row h3 (fun k e e2 => ?_)
        have : k = wb.heap.size := by simpa using e2
        subst this
        exact hn5 (.inr e)
      · have k1 : Keeps (fun _ => False) w wb := Keeps.of_below hbb
        have k2 : Keeps (fun _ => False) w W := k1.trans (st5.keeps.mono (fun k _ e => .inr (by omega)))
        exact (k2.trans (hk'.mono (fun k _ e => .inr (by simp at e; omega)))).below
      · intro k e
        rcases st5.gains k (.inr e) with e1 | e1
        · omega
        · omega
    case stop =>
      rintro O5 pre W hpre st5 hn5 h hD5
      exact h.elim
end Go.Proofs.YtabogkonklplcaaGreatDoor
