import Derived.Test.YtabogkonklplcaaGreatDoorF19
import Derived.Test.YtabogkonklplcaaGreatDoorF17
import Derived.Deep.Cut
import Derived.Deep.CutRange

/- marginref's Split: what it refuses. -/
namespace Go.Proofs.YtabogkonklplcaaGreatDoor
open Go.RowKit
set_option linter.unusedSimpArgs false
set_option linter.unusedVariables false

section
variable {w : World} {F : Nat → Prop} {bd bn cap : Nat} {rn : List RN} {rv : Value} {s : List Nd} {rs : List Sp}

set_option maxRecDepth 20000 in
set_option maxHeartbeats 1000000 in
theorem rsplit_unfit (n k : Int) (f0 f1 : Int) (h1 : f1 ≠ 0) (hT : Calls Tryz.prog 123 #[.pointer (some ⟨bd, 0, none⟩), .int .i64 n, .int .i64 k] (one0 w) fun e w' => e = .returned (rfltV f0 f1) ∧ Below (one0 w).heap.size (one0 w) w') :
    Calls Tryz.prog 79 #[.pointer (some ⟨bd, 0, none⟩), .int .i64 n, .int .i64 k] w fun e w' => e = .returned (.tuple #[.int .i64 0, rfltV f0 f1]) ∧ Below w.heap.size w w' := by
  have CF := hid hT
  have h1b : (f1 == 0) = false := by simpa using h1
  have HTB := hid (one0_below w)
  clear hT h1
  go_enter Tryz.func79, Tryz.ntmps79
  go_wp2_with (first
    | (go_at_call 123; refine CF.out.mono ?_; rintro e w1 ⟨rfl, hb1⟩
       have hq2 : w1.heap[w.heap.size]? = some (.cells #[.int .i64 0, .int .i64 0] 32 (0, 0)) := by
         rw [hb1.block _ (by simp)]
         exact heap_alloc_new w _
       have hs1 : w.heap.size + 1 ≤ w1.heap.size := by have := hb1.size; simpa using this
       have HB1 := hid (HTB.out.trans (hb1.mono HTB.out.size))
       have HQ2 := hid hq2
       clear hb1 hq2)
    | (go_at_call 124; refine (fine_any f0 f1 _).mono ?_; rintro e w2 ⟨rfl, hb2⟩
       have hf2 : w2.heap[w1.heap.size]? = some (.cells #[.int .i64 f0, .int .i64 f1] 32 (0, 0)) := (hb2.block _ (by simp)).trans (heap_alloc_new w1 _)
       have hz2 : w2.heap[w.heap.size]? = some (.cells #[.int .i64 0, .int .i64 0] 32 (0, 0)) :=
         (hb2.block _ (by simp; omega)).trans ((((Below.refl _ w1).alloc (Nat.le_refl _) _).block _ (by omega)).trans HQ2.out)
       have cf0 : w2.cell? ⟨w1.heap.size, 0, none⟩ = some (.int .i64 f0) := cell_of_heap hf2 0
       have cf1 : w2.cell? ⟨w1.heap.size, 1, none⟩ = some (.int .i64 f1) := cell_of_heap hf2 1
       have cz0 : w2.cell? ⟨w.heap.size, 0, none⟩ = some (.int .i64 0) := cell_of_heap hz2 0
       have cz1 : w2.cell? ⟨w.heap.size, 1, none⟩ = some (.int .i64 0) := cell_of_heap hz2 1
       have fz0 := frozen_of_heap hz2 0
       have fz1 := frozen_of_heap hz2 1
       have HB2 := hid ((HB1.out.alloc HB1.out.size _).trans (hb2.mono (Nat.le_trans HB1.out.size (by simp))))
       have hs2 : w.heap.size + 1 ≤ w2.heap.size := by have := hb2.size; simp at this; omega
       clear hb2 hf2
       skip
       rw [h1b]))
  go_region
  all_goals
    go_wp2
    refine bodyPost_ret (v := .tuple #[.int .i64 0, rfltV f0 f1]) (by simp [results, Tryz.results79, go_sem, *]) rfl ?_
    exact ⟨rfl, ((HB2.out.setCell (p := ⟨w.heap.size, 0, none⟩) (Nat.le_refl _) _).setCell (p := ⟨w.heap.size, 1, none⟩) (Nat.le_refl _) _).drew⟩

set_option maxRecDepth 20000 in
set_option maxHeartbeats 1000000 in
theorem rsplit_full (hD : RDocAt w F bd bn cap rn rv s rs) (n k : Nat) (x : Nd) (hx : s[n]? = some x) (ht : x.t = true) (hk : k ≤ x.cs.length) (h40 : 40 ≤ s.length) :
    Calls Tryz.prog 79 #[.pointer (some ⟨bd, 0, none⟩), .int .i64 n, .int .i64 k] w fun e w' => e = .returned (.tuple #[.int .i64 0, rfltV n 7]) ∧ Below w.heap.size w w' := by
  have CF := hid (textFits_ok (hD.below (one0_below w)) n k x hx ht hk)
  have h1b : ((0 : Int) == 0) = true := rfl
  have h40b : decide ((40 : Int) ≤ (s.length : Int)) = true := decide_eq_true (by omega)
  have h0 := hD.nodesCell
  have hlt := hD.lt
  have HTB := hid (one0_below w)
  clear hD hx ht hk
  go_enter Tryz.func79, Tryz.ntmps79
  go_wp2_with (first
    | (go_at_call 123; refine CF.out.mono ?_; rintro e w1 ⟨rfl, hb1⟩
       have hq2 : w1.heap[w.heap.size]? = some (.cells #[.int .i64 0, .int .i64 0] 32 (0, 0)) := by
         rw [hb1.block _ (by simp)]
         exact heap_alloc_new w _
       have hs1 : w.heap.size + 1 ≤ w1.heap.size := by have := hb1.size; simpa using this
       have HB1 := hid (HTB.out.trans (hb1.mono HTB.out.size))
       have HQ2 := hid hq2
       clear hb1 hq2)
    | (go_at_call 124; refine (fine_any 0 0 _).mono ?_; rintro e w2 ⟨rfl, hb2⟩
       have hf2 : w2.heap[w1.heap.size]? = some (.cells #[.int .i64 0, .int .i64 0] 32 (0, 0)) := (hb2.block _ (by simp)).trans (heap_alloc_new w1 _)
       have hz2 : w2.heap[w.heap.size]? = some (.cells #[.int .i64 0, .int .i64 0] 32 (0, 0)) :=
         (hb2.block _ (by simp; omega)).trans ((((Below.refl _ w1).alloc (Nat.le_refl _) _).block _ (by omega)).trans HQ2.out)
       have cf0 : w2.cell? ⟨w1.heap.size, 0, none⟩ = some (.int .i64 0) := cell_of_heap hf2 0
       have cf1 : w2.cell? ⟨w1.heap.size, 1, none⟩ = some (.int .i64 0) := cell_of_heap hf2 1
       have cz0 : w2.cell? ⟨w.heap.size, 0, none⟩ = some (.int .i64 0) := cell_of_heap hz2 0
       have cz1 : w2.cell? ⟨w.heap.size, 1, none⟩ = some (.int .i64 0) := cell_of_heap hz2 1
       have fz0 := frozen_of_heap hz2 0
       have fz1 := frozen_of_heap hz2 1
       have HB2 := hid ((HB1.out.alloc HB1.out.size _).trans (hb2.mono (Nat.le_trans HB1.out.size (by simp))))
       have hs2 : w.heap.size + 1 ≤ w2.heap.size := by have := hb2.size; simp at this; omega
       clear hb2 hf2
       have HZ := hid hz2
       have d0 := (HB2.out.cell (p := ⟨bd, 0, none⟩) hlt.1).trans h0
       clear hz2
       rw [h1b])
    | (go_at_call 48; refine (no_any _ _ _).mono ?_; rintro e w5 ⟨rfl, hw5⟩
       have hz5 : w5.heap[w.heap.size]? = some (.cells #[.int .i64 0, .int .i64 0] 32 (0, 0)) := by rw [hw5]; exact (Below.heap_alloc _ _ _ (heap_lt HZ.out)).trans HZ.out
       have cz5 : w5.cell? ⟨w.heap.size, 0, none⟩ = some (.int .i64 0) := cell_of_heap hz5 0
       have cz6 : w5.cell? ⟨w.heap.size, 1, none⟩ = some (.int .i64 0) := cell_of_heap hz5 1
       have fz5 := frozen_of_heap hz5 0
       have fz6 := frozen_of_heap hz5 1
       have hs5 := heap_lt hz5
       have HB5 : Hid (Below w.heap.size w w5) := by rw [hw5]; exact HB2.out.alloc HB2.out.size _
       clear hz5 hw5))
  refine bodyPost_ret (v := .tuple #[.int .i64 0, rfltV n 7]) (by simp [results, Tryz.results79, go_sem, cz5, cz6, fz5, fz6, hs5]) rfl ?_
  exact ⟨rfl, (HB5.out.setCell (p := ⟨w.heap.size, 0, none⟩) (Nat.le_refl _) _).setCell (p := ⟨w.heap.size, 1, none⟩) (Nat.le_refl _) _⟩
end
end Go.Proofs.YtabogkonklplcaaGreatDoor

/- marginref's Split, done. -/
namespace Go.Proofs.YtabogkonklplcaaGreatDoor
open Go.RowKit
set_option linter.unusedSimpArgs false
set_option linter.unusedVariables false

/-- A row from one of its places on: nil, or cells. -/
theorem slice_tail {w0 : World} {t e : TypeId} {n : Nat} {v : Value} {xs : List Value} (ht : Tryz.prog.underlying t = some (.slice e)) (he : Tryz.prog.elem t = e) (hs : ∀ w, (sizeOf e).run Tryz.prog w = .ok 1 w) (hr : w0.ownsRow 0 e 1 v n xs) (h1 : ∀ u ∈ xs, u.oneCell' = true) (k : Nat) (hk : k ≤ n) (hnil : ∀ w, (Instr.slice t (.slice none 0 0) (some (.int .i64 0)) none none).run Tryz.prog w = .ok (.slice none 0 0) w) :
    ∃ a c, (∀ w, (Instr.slice t v (some (.int .i64 (k : Int))) none none).run Tryz.prog w = .ok (.slice a (n - k) c) w) ∧ ∀ w : World, w.ownsRow 0 e 1 v n xs → SrcOk w 1 (.slice a (n - k) c) (n - k) (xs.drop k) := by
  rcases row_cases hr with ⟨hv, h0⟩ | ⟨g, cc, hgv⟩
  · subst h0
    have hk0 : k = 0 := by omega
    subst hk0 hv
    have hx : xs = [] := List.length_eq_zero_iff.1 (by have := hr.1; omega)
    subst hx
    exact ⟨none, 0, hnil, fun w _ => .inl ⟨rfl, rfl, rfl⟩⟩
  · subst hgv
    obtain ⟨ad, hsl, hsrc⟩ := slice_from ht he hs hr k hk
    refine ⟨some ad, cc - k, hsl, fun w h => ?_⟩
    have hl := hr.1
    unfold SrcOk
    exact Or.inr ⟨ad, cc - k, rfl, by simp; omega, hsrc w h, fun u hu => h1 u (List.mem_of_mem_drop hu)⟩

section
variable {w : World} {F : Nat → Prop} {bd bn cap : Nat} {rn : List RN} {rv : Value} {s : List Nd} {rs : List Sp}

set_option maxRecDepth 20000 in
set_option maxHeartbeats 2000000 in
theorem rsplit_top (hD : RDocAt w F bd bn cap rn rv s []) (n k : Nat) (x : Nd) (hx : s[n]? = some x) (ht : x.t = true) (hlen : x.cs.length ≤ 30) (hk : k ≤ x.cs.length) (h40 : s.length < 40) (hp : x.p < 0) :
    Calls Tryz.prog 79 #[.pointer (some ⟨bd, 0, none⟩), .int .i64 n, .int .i64 k] w fun e w' => e = .returned (.tuple #[.int .i64 s.length, rfltV 0 0]) ∧ Keeps F w w' ∧
      RDoc w' (fun b => F b ∨ w.heap.size ≤ b) bd ((s ++ [(⟨true, x.cs.drop k, [], x.p⟩ : Nd)]).set n { x with cs := x.cs.take k }) [] := by
  obtain ⟨i0, hi, hz0, hz1, hz2⟩ := info_parts Tryz.info9
  obtain ⟨j0, hj, jz0, jz1, jz2⟩ := info_parts Tryz.info119
  have hn : n < s.length := (List.getElem?_eq_some_iff.1 hx).1
  have CF := hid (textFits_ok (hD.below (one0_below w)) n k x hx ht hk)
  have h1b : ((0 : Int) == 0) = true := rfl
  have h40b : decide ((40 : Int) ≤ (s.length : Int)) = false := decide_eq_false (by omega)
  have h0 := hD.nodesCell
  have hlt := hD.lt
  have hlenE := hD.len
  have hpd : decide (0 ≤ x.p) = false := decide_eq_false (by omega)
  have hpd' : ¬ (0 : Int) ≤ x.p := by omega
  obtain ⟨r, hr, ho, -, hc1, -, hc3⟩ := hD.look hx
  obtain ⟨ta, tc, hsl, hsrc⟩ := slice_tail (t := 107) Tryz.underlying107 Tryz.elem107 Tryz.sizeOf9 ho.chars (strsV_one _) k hk (fun w => by kernel_rfl)
  obtain ⟨ca, cc, hcv⟩ := slice_shape ho.chars
  rw [hcv] at hc1 hsl hsrc
  have HROW := hid ho.chars
  rw [hcv] at HROW
  have HSRC := hid hsrc
  have HTB := hid (one0_below w)
  have HD := hid hD
  have HX := hid hx
  clear hD hr ho hcv hx ht hsrc
  go_enter Tryz.func79, Tryz.ntmps79
  go_wp2_with (first
    | (go_at_call 123; refine CF.out.mono ?_; rintro e w1 ⟨rfl, hb1⟩
       have hq2 : w1.heap[w.heap.size]? = some (.cells #[.int .i64 0, .int .i64 0] 32 (0, 0)) := by
         rw [hb1.block _ (by simp)]
         exact heap_alloc_new w _
       have hs1 : w.heap.size + 1 ≤ w1.heap.size := by have := hb1.size; simpa using this
       have HB1 := hid (HTB.out.trans (hb1.mono HTB.out.size))
       have HQ2 := hid hq2
       clear hb1 hq2)
    | (go_at_call 124; refine (fine_any 0 0 _).mono ?_; rintro e w2 ⟨rfl, hb2⟩
       have hf2 : w2.heap[w1.heap.size]? = some (.cells #[.int .i64 0, .int .i64 0] 32 (0, 0)) := (hb2.block _ (by simp)).trans (heap_alloc_new w1 _)
       have hz2 : w2.heap[w.heap.size]? = some (.cells #[.int .i64 0, .int .i64 0] 32 (0, 0)) :=
         (hb2.block _ (by simp; omega)).trans ((((Below.refl _ w1).alloc (Nat.le_refl _) _).block _ (by omega)).trans HQ2.out)
       have cf0 : w2.cell? ⟨w1.heap.size, 0, none⟩ = some (.int .i64 0) := cell_of_heap hf2 0
       have cf1 : w2.cell? ⟨w1.heap.size, 1, none⟩ = some (.int .i64 0) := cell_of_heap hf2 1
       have cz0 : w2.cell? ⟨w.heap.size, 0, none⟩ = some (.int .i64 0) := cell_of_heap hz2 0
       have cz1 : w2.cell? ⟨w.heap.size, 1, none⟩ = some (.int .i64 0) := cell_of_heap hz2 1
       have fz0 := frozen_of_heap hz2 0
       have fz1 := frozen_of_heap hz2 1
       have HB2 := hid ((HB1.out.alloc HB1.out.size _).trans (hb2.mono (Nat.le_trans HB1.out.size (by simp))))
       have hs2 : w.heap.size + 1 ≤ w2.heap.size := by have := hb2.size; simp at this; omega
       clear hb2
       have HZ := hid hz2
       have d0 := (HB2.out.cell (p := ⟨bd, 0, none⟩) hlt.1).trans h0
       have d1 := (HB2.out.cell (p := ⟨bn, n * 4 + 1, none⟩) hlt.2).trans hc1
       have d3 := (HB2.out.cell (p := ⟨bn, n * 4 + 3, none⟩) hlt.2).trans hc3
       have S2 := hid (HSRC.out w2 ((Keeps.of_below (F := fun _ => False) HB2.out).row HROW.out (fun _ _ e => e)))
       have HF := hid (And.intro hf2 hf2)
       clear hz2
       rw [h1b])
    | (at_builtin; refine wpList_append_any _ rfl (.tmp 32) (.tmp 42) 107 rfl w2.heap.size 9 i0 (.string ByteArray.empty) 1 16 Tryz.underlying107 hi hz0 hz1 hz2 rfl (by decide) (.slice none 0 0) 0 [] rfl (World.ownsRow_nil _ _ _ _) _ _ _ rfl S2.out (by unfold maxLen; omega) (by omega) (Nat.le_refl _) ?_
       intro v1 w3 ho1 hb1
       obtain ⟨va, vc, hv1⟩ := slice_shape ho1
       subst hv1
       have hh := HB2.out.trans (hb1.mono HB2.out.size)
       have hz := hh.size
       have d0' := (hh.cell (p := ⟨bd, 0, none⟩) hlt.1).trans h0
       have d3' := (hh.cell (p := ⟨bn, n * 4 + 3, none⟩) hlt.2).trans hc3
       have HO1 := hid ho1
       have HB3 := hid hh
       have hz3 : w3.heap[w.heap.size]? = some (.cells #[.int .i64 0, .int .i64 0] 32 (0, 0)) := (hb1.block _ (heap_lt HZ.out)).trans HZ.out
       have HZ3 := hid hz3
       have HW3 := hid (And.intro hz (heap_lt hz3))
       go_must (have HD2 : Hid (RDocAt (w3.alloc (.cells #[.bool true, .slice va (0 + (x.cs.length - k)) vc, .slice none 0 0, .int .i64 x.p] 119)) (fun b => F b ∧ b < w.heap.size) bd bn cap rn rv s []) :=
         HD.out.narrow.below (hh.alloc hh.size _))
       clear ho1 hb1 hh hz3)
    | (at_builtin
       refine wpList_append_lies _ rfl (.tmp 61) (.tmp 65) 120 rfl 0 119 j0 _ 4 64 Tryz.underlying120 hj jz0 jz1 jz2 rfl (by decide) (.slice (some ⟨bn, 0, none⟩) s.length cap) s.length _ rfl (by have := HD2.out.nodes; rw [hlenE] at this; simp only [Nat.zero_add] at this; exact this) ⟨w3.heap.size, 0, none⟩ 1 1 [.bool true, .slice va (x.cs.length - k) vc, .slice none 0 0, .int .i64 x.p] rfl rfl (World.news_of_block (heap_alloc_new w3 _)) (by simp [Value.oneCell']) (by decide) (by unfold maxLen; omega) (by omega) (Nat.zero_le _) (w3.heap.size + 1) (by simp) ?_
       intro g cap' w4 ho (hg : World.grownBy _ w4 (some bn)) (hgn : some bn = some g ∨ _) _
       have z0 := HW3.out.1
       have z1 := HW3.out.2
       have hD2 := HD2.out
       simp only [Nat.zero_add] at hD2
       have hd1 := (hg.block bd (by simp only [World.size_alloc]; omega) (by simpa using hD2.ne)).trans hD2.doc
       have hcD : w4.cell? ⟨bd, 0, none⟩ = some (.slice (some ⟨bn, 0, none⟩) rn.length cap) := cell_of_heap hd1 0
       have hfD := frozen_of_heap hd1 0
       have hq1 := (hg.block w.heap.size (by simp only [World.size_alloc]; omega) (by simp; omega)).trans ((Below.heap_alloc _ _ _ z1).trans HZ3.out)
       have hcr := HO1.out
       simp only [Nat.zero_add, List.nil_append] at hcr
       have hcb : ∀ b, (Value.slice va (x.cs.length - k) vc).ownBlock = some b → w2.heap.size ≤ b := fun b e => (hcr.lt b e).1
       have hcs : (x.cs.drop k).length = x.cs.length - k := by simp
       have hcv : (strsV x.cs).drop k = strsV (x.cs.drop k) := by simp [strsV]
       have hp5 := hD2.pushed (B := w.heap.size + 1) (x := ⟨true, x.cs.drop k, [], x.p⟩) (r := ⟨true, .slice va (x.cs.length - k) vc, .slice none 0 0, x.p⟩) (by simp only [World.size_alloc]; omega) hg (by rw [hlenE]; exact ho) (by rcases hgn with e | e; exact .inl (by cases e; rfl); exact .inr (by simpa using e))
         ⟨rfl, rfl, by rw [hcs, ← hcv]; exact ownsRow_zero (hcr.alloc _), World.ownsRow_nil _ _ _ _, fun b e => ⟨.inr (by have := hcb b e; omega), by have := hcb b e; omega, by have := hcb b e; omega, fun e2 => by have := hcb b e; have := (HD.out.ranges.lt b e2).2; omega⟩, fun b e => (by cases e)⟩
       rw [hlenE] at hp5 hcD
       have hk0 : Keeps F w w4 := ((Keeps.of_below (F := F) HB3.out).alloc _).trans (Keeps.grown hg (fun k e => by cases e; exact .inl (.inl HD.out.Fn)))
       have hq5 : (w4.setCell ⟨bd, 0, none⟩ (.slice (some ⟨g, 0, none⟩) (s.length + 1) cap')).heap[w.heap.size]? = some (.cells #[.int .i64 0, .int .i64 0] 32 (0, 0)) := by
         rw [Below.heap_setCell _ _ _ _ (by simp; omega)]; exact hq1
       have HP5 := hid hp5
       have HK0 := hid hk0
       have HQ5 := hid hq5
       have CR := hid (replace_any hp5 n k (x.cs.length - k) x (by rw [List.getElem?_append_left hn]; exact HX.out) hlen (by omega) (.slice none 0 0) [] (by decide) (World.ownsRow_nil _ _ _ _))
       clear hd1 hq1 hg ho hgn hp5 hk0 hq5 hD2 hcr hcb hcs hcv)
    | (go_at_call 125
       refine CR.out.mono ?_
       rintro e w5 ⟨rfl, hk5, hr5⟩
       have hz5 := (hk5.block _ (heap_lt HQ5.out) (fun e => by rcases e with e | e; exact Nat.lt_irrefl _ e.2; omega)).trans HQ5.out
       have cz5 : w5.cell? ⟨w.heap.size, 0, none⟩ = some (.int .i64 0) := cell_of_heap hz5 0
       have cz6 : w5.cell? ⟨w.heap.size, 1, none⟩ = some (.int .i64 0) := cell_of_heap hz5 1
       have fz5 := frozen_of_heap hz5 0
       have fz6 := frozen_of_heap hz5 1
       have hs5 := heap_lt hz5
       have HK5 := hid hk5
       have HR5 := hid hr5
       clear hk5 hr5 hz5))
  refine bodyPost_ret (v := .tuple #[.int .i64 s.length, rfltV 0 0]) (by simp [results, Tryz.results79, go_sem, cz5, cz6, fz5, fz6, hs5]) rfl ?_
  have hk6 : Keeps F w w5 := (HK0.out.setCell (p := ⟨bd, 0, none⟩) (.inl HD.out.Fd) _).trans (HK5.out.mono (fun b _ e => by rcases e with e | e; exact .inl e.1; exact .inr (by omega)))
  have hk7 : Keeps (fun b => b = w.heap.size) w5 ((w5.setCell ⟨w.heap.size, 0, none⟩ (.int .i64 0)).setCell ⟨w.heap.size, 1, none⟩ (.int .i64 0)) := ((Keeps.refl (fun b => b = w.heap.size) w5).setCell (p := ⟨w.heap.size, 0, none⟩) (.inl rfl) _).setCell (p := ⟨w.heap.size, 1, none⟩) (.inl rfl) _
  obtain ⟨bn6, cap6, rn6, rv6, hD6⟩ := HR5.out.keeps hk7 (fun b e e2 => by have := heap_lt HQ5.out; rcases e with (e | e) | e <;> omega)
  refine ⟨rfl, (hk6.setCell (p := ⟨w.heap.size, 0, none⟩) (.inr (Nat.le_refl _)) _).setCell (p := ⟨w.heap.size, 1, none⟩) (.inr (Nat.le_refl _)) _, bn6, cap6, rn6, rv6, ?_⟩
  have e7 : x.cs.take k ++ [] ++ x.cs.drop (k + (x.cs.length - k)) = x.cs.take k := by rw [List.drop_of_length_le (by omega)]; simp
  rw [e7] at hD6
  refine hD6.wider (fun b e => ?_)
  rcases e with (e | e) | e
  · exact .inl e.1
  · exact .inr (by omega)
  · exact .inr (by have := heap_lt HQ5.out; omega)
end
end Go.Proofs.YtabogkonklplcaaGreatDoor

/- marginref's Split, of a text that has a parent. -/
namespace Go.Proofs.YtabogkonklplcaaGreatDoor
open Go.RowKit
set_option linter.unusedSimpArgs false
set_option linter.unusedVariables false

section
variable {w : World} {F : Nat → Prop} {bd bn cap : Nat} {rn : List RN} {rv : Value} {s : List Nd} {rs : List Sp}

set_option maxRecDepth 20000 in
set_option maxHeartbeats 2000000 in
theorem rsplit_in (hD : RDocAt w F bd bn cap rn rv s []) (n k : Nat) (x : Nd) (hx : s[n]? = some x) (ht : x.t = true) (hlen : x.cs.length ≤ 30) (hk : k ≤ x.cs.length) (h40 : s.length < 40) (j m : Nat) (y : Nd) (hpj : x.p = j) (hy : s[j]? = some y) (hm : y.ks[m]? = some n) (hno : n ∉ y.ks.take m) (hkb : y.ks.length < lots) (hnj : n ≠ j) :
    Calls Tryz.prog 79 #[.pointer (some ⟨bd, 0, none⟩), .int .i64 n, .int .i64 k] w fun e w' => e = .returned (.tuple #[.int .i64 s.length, rfltV 0 0]) ∧ Keeps F w w' ∧
      RDoc w' (fun b => F b ∨ w.heap.size ≤ b) bd (((s ++ [(⟨true, x.cs.drop k, [], (j : Int)⟩ : Nd)]).set j { y with ks := y.ks.take (m + 1) ++ s.length :: y.ks.drop (m + 1) }).set n { x with cs := x.cs.take k }) [] := by
  obtain ⟨i0, hi, hz0, hz1, hz2⟩ := info_parts Tryz.info9
  obtain ⟨j0, hj, jz0, jz1, jz2⟩ := info_parts Tryz.info119
  have hn : n < s.length := (List.getElem?_eq_some_iff.1 hx).1
  have CF := hid (textFits_ok (hD.below (one0_below w)) n k x hx ht hk)
  have h1b : ((0 : Int) == 0) = true := rfl
  have h40b : decide ((40 : Int) ≤ (s.length : Int)) = false := decide_eq_false (by omega)
  have h0 := hD.nodesCell
  have hlt := hD.lt
  have hlenE := hD.len
  have hjl : j < s.length := (List.getElem?_eq_some_iff.1 hy).1
  have hml : m < y.ks.length := (List.getElem?_eq_some_iff.1 hm).1
  have hkb' := hkb
  unfold lots at hkb'
  have HY := hid (And.intro hy (And.intro hm (And.intro hno hkb)))
  have q1 : IntKind.i64.wrap ((m : Int) + 1) = (m : Int) + 1 := by rw [IntKind.wrap_i64]; omega
  obtain ⟨r, hr, ho, -, hc1, -, hc3⟩ := hD.look hx
  rw [hpj] at hc3
  have HPJ := hid hpj
  clear hpj
  obtain ⟨ta, tc, hsl, hsrc⟩ := slice_tail (t := 107) Tryz.underlying107 Tryz.elem107 Tryz.sizeOf9 ho.chars (strsV_one _) k hk (fun w => by kernel_rfl)
  obtain ⟨ca, cc, hcv⟩ := slice_shape ho.chars
  rw [hcv] at hc1 hsl hsrc
  have HROW := hid ho.chars
  rw [hcv] at HROW
  have HSRC := hid hsrc
  have HTB := hid (one0_below w)
  have HD := hid hD
  have HX := hid hx
  clear hD hr ho hcv hx ht hsrc hy hm hno hkb
  go_enter Tryz.func79, Tryz.ntmps79
  go_wp2_with (first
    | (go_at_call 123; refine CF.out.mono ?_; rintro e w1 ⟨rfl, hb1⟩
       have hq2 : w1.heap[w.heap.size]? = some (.cells #[.int .i64 0, .int .i64 0] 32 (0, 0)) := by
         rw [hb1.block _ (by simp)]
         exact heap_alloc_new w _
       have hs1 : w.heap.size + 1 ≤ w1.heap.size := by have := hb1.size; simpa using this
       have HB1 := hid (HTB.out.trans (hb1.mono HTB.out.size))
       have HQ2 := hid hq2
       clear hb1 hq2)
    | (go_at_call 124; refine (fine_any 0 0 _).mono ?_; rintro e w2 ⟨rfl, hb2⟩
       have hf2 : w2.heap[w1.heap.size]? = some (.cells #[.int .i64 0, .int .i64 0] 32 (0, 0)) := (hb2.block _ (by simp)).trans (heap_alloc_new w1 _)
       have hz2 : w2.heap[w.heap.size]? = some (.cells #[.int .i64 0, .int .i64 0] 32 (0, 0)) :=
         (hb2.block _ (by simp; omega)).trans ((((Below.refl _ w1).alloc (Nat.le_refl _) _).block _ (by omega)).trans HQ2.out)
       have cf0 : w2.cell? ⟨w1.heap.size, 0, none⟩ = some (.int .i64 0) := cell_of_heap hf2 0
       have cf1 : w2.cell? ⟨w1.heap.size, 1, none⟩ = some (.int .i64 0) := cell_of_heap hf2 1
       have cz0 : w2.cell? ⟨w.heap.size, 0, none⟩ = some (.int .i64 0) := cell_of_heap hz2 0
       have cz1 : w2.cell? ⟨w.heap.size, 1, none⟩ = some (.int .i64 0) := cell_of_heap hz2 1
       have fz0 := frozen_of_heap hz2 0
       have fz1 := frozen_of_heap hz2 1
       have HB2 := hid ((HB1.out.alloc HB1.out.size _).trans (hb2.mono (Nat.le_trans HB1.out.size (by simp))))
       have hs2 : w.heap.size + 1 ≤ w2.heap.size := by have := hb2.size; simp at this; omega
       clear hb2
       have HZ := hid hz2
       have d0 := (HB2.out.cell (p := ⟨bd, 0, none⟩) hlt.1).trans h0
       have d1 := (HB2.out.cell (p := ⟨bn, n * 4 + 1, none⟩) hlt.2).trans hc1
       have d3 := (HB2.out.cell (p := ⟨bn, n * 4 + 3, none⟩) hlt.2).trans hc3
       have S2 := hid (HSRC.out w2 ((Keeps.of_below (F := fun _ => False) HB2.out).row HROW.out (fun _ _ e => e)))
       have HF := hid (And.intro hf2 hf2)
       clear hz2
       rw [h1b])
    | (at_builtin; refine wpList_append_any _ rfl (.tmp 32) (.tmp 42) 107 rfl w2.heap.size 9 i0 (.string ByteArray.empty) 1 16 Tryz.underlying107 hi hz0 hz1 hz2 rfl (by decide) (.slice none 0 0) 0 [] rfl (World.ownsRow_nil _ _ _ _) _ _ _ rfl S2.out (by unfold maxLen; omega) (by omega) (Nat.le_refl _) ?_
       intro v1 w3 ho1 hb1
       obtain ⟨va, vc, hv1⟩ := slice_shape ho1
       subst hv1
       have hh := HB2.out.trans (hb1.mono HB2.out.size)
       have hz := hh.size
       have d0' := (hh.cell (p := ⟨bd, 0, none⟩) hlt.1).trans h0
       have d3' := (hh.cell (p := ⟨bn, n * 4 + 3, none⟩) hlt.2).trans hc3
       have HO1 := hid ho1
       have HB3 := hid hh
       have hz3 : w3.heap[w.heap.size]? = some (.cells #[.int .i64 0, .int .i64 0] 32 (0, 0)) := (hb1.block _ (heap_lt HZ.out)).trans HZ.out
       have HZ3 := hid hz3
       have HW3 := hid (And.intro hz (heap_lt hz3))
       go_must (have HD2 : Hid (RDocAt (w3.alloc (.cells #[.bool true, .slice va (0 + (x.cs.length - k)) vc, .slice none 0 0, .int .i64 (j : Int)] 119)) (fun b => F b ∧ b < w.heap.size) bd bn cap rn rv s []) :=
         HD.out.narrow.below (hh.alloc hh.size _))
       clear ho1 hb1 hh hz3)
    | (at_builtin
       refine wpList_append_lies _ rfl (.tmp 61) (.tmp 65) 120 rfl 0 119 j0 _ 4 64 Tryz.underlying120 hj jz0 jz1 jz2 rfl (by decide) (.slice (some ⟨bn, 0, none⟩) s.length cap) s.length _ rfl (by have := HD2.out.nodes; rw [hlenE] at this; simp only [Nat.zero_add] at this; exact this) ⟨w3.heap.size, 0, none⟩ 1 1 [.bool true, .slice va (x.cs.length - k) vc, .slice none 0 0, .int .i64 (j : Int)] rfl rfl (World.news_of_block (heap_alloc_new w3 _)) (by simp [Value.oneCell']) (by decide) (by unfold maxLen; omega) (by omega) (Nat.zero_le _) (w3.heap.size + 1) (by simp) ?_
       intro g cap' w4 ho (hg : World.grownBy _ w4 (some bn)) (hgn : some bn = some g ∨ _) _
       have z0 := HW3.out.1
       have z1 := HW3.out.2
       have hD2 := HD2.out
       simp only [Nat.zero_add] at hD2
       have hd1 := (hg.block bd (by simp only [World.size_alloc]; omega) (by simpa using hD2.ne)).trans hD2.doc
       have hcD : w4.cell? ⟨bd, 0, none⟩ = some (.slice (some ⟨bn, 0, none⟩) rn.length cap) := cell_of_heap hd1 0
       have hfD := frozen_of_heap hd1 0
       have hq1 := (hg.block w.heap.size (by simp only [World.size_alloc]; omega) (by simp; omega)).trans ((Below.heap_alloc _ _ _ z1).trans HZ3.out)
       have hcr := HO1.out
       simp only [Nat.zero_add, List.nil_append] at hcr
       have hcb : ∀ b, (Value.slice va (x.cs.length - k) vc).ownBlock = some b → w2.heap.size ≤ b := fun b e => (hcr.lt b e).1
       have hcs : (x.cs.drop k).length = x.cs.length - k := by simp
       have hcv : (strsV x.cs).drop k = strsV (x.cs.drop k) := by simp [strsV]
       have hp5 := hD2.pushed (B := w.heap.size + 1) (x := ⟨true, x.cs.drop k, [], (j : Int)⟩) (r := ⟨true, .slice va (x.cs.length - k) vc, .slice none 0 0, (j : Int)⟩) (by simp only [World.size_alloc]; omega) hg (by rw [hlenE]; exact ho) (by rcases hgn with e | e; exact .inl (by cases e; rfl); exact .inr (by simpa using e))
         ⟨rfl, rfl, by rw [hcs, ← hcv]; exact ownsRow_zero (hcr.alloc _), World.ownsRow_nil _ _ _ _, fun b e => ⟨.inr (by have := hcb b e; omega), by have := hcb b e; omega, by have := hcb b e; omega, fun e2 => by have := hcb b e; have := (HD.out.ranges.lt b e2).2; omega⟩, fun b e => (by cases e)⟩
       rw [hlenE] at hp5 hcD
       have hk0 : Keeps F w w4 := ((Keeps.of_below (F := F) HB3.out).alloc _).trans (Keeps.grown hg (fun k e => by cases e; exact .inl (.inl HD.out.Fn)))
       have hq5 : (w4.setCell ⟨bd, 0, none⟩ (.slice (some ⟨g, 0, none⟩) (s.length + 1) cap')).heap[w.heap.size]? = some (.cells #[.int .i64 0, .int .i64 0] 32 (0, 0)) := by
         rw [Below.heap_setCell _ _ _ _ (by simp; omega)]; exact hq1
       have HP5 := hid hp5
       have HK0 := hid hk0
       have HQ5 := hid hq5
       have hx5 : (s ++ [(⟨true, x.cs.drop k, [], (j : Int)⟩ : Nd)])[n]? = some x := by rw [List.getElem?_append_left hn]; exact HX.out
       have hy5 : (s ++ [(⟨true, x.cs.drop k, [], (j : Int)⟩ : Nd)])[j]? = some y := by rw [List.getElem?_append_left hjl]; exact HY.out.1
       have C5 := hid (index_at hp5 n j m x y hx5 HPJ.out hy5 HY.out.2.2.2 HY.out.2.1 HY.out.2.2.1)
       have e0 := hp5.nodesCell
       rw [List.length_append] at e0
       simp only [List.length_cons, List.length_nil, Nat.zero_add] at e0
       obtain ⟨r7, hr7, ho7, -, -, hc7, -⟩ := hp5.look hy5
       obtain ⟨ya, yc, hv7⟩ := slice_shape ho7.kids
       rw [hv7] at hc7
       have HR7 := hid ho7.kids
       rw [hv7] at HR7
       have hlt5 := hp5.lt
       obtain ⟨ra, rc, hrve⟩ : ∃ a c, rv = .slice a 0 c := slice_shape hp5.ranges
       have HX5 := hid hx5
       have HY5 := hid hy5
       clear hr7 ho7 hv7 hx5 hy5
       clear hd1 hq1 hg ho hgn hp5 hk0 hq5 hD2 hcr hcb hcs hcv)
    | (go_at_call 121; refine C5.out.mono ?_; rintro e w6 ⟨rfl, n0, hw6⟩
       have hk6 : Keeps (fun _ => False) (w4.setCell ⟨bd, 0, none⟩ (.slice (some ⟨g, 0, none⟩) (s.length + 1) cap')) w6 := by rw [hw6]; exact ⟨rfl, rfl, rfl, Nat.le_refl _, fun _ _ _ => rfl⟩
       have g0 := hk6.cell e0 (fun e => e)
       have g7 := hk6.cell hc7 (fun e => e)
       have HD6 := hid (HP5.out.keeps hk6 (fun _ _ e => e))
       have hq6 := (hk6.block w.heap.size (heap_lt HQ5.out) (fun e => e)).trans HQ5.out
       have HQ6 := hid hq6
       have HR6 := hid (hk6.row HR7.out (fun _ _ e => e))
       have hl6 : bd < w6.heap.size ∧ g < w6.heap.size := HD6.out.lt
       have hz6 := heap_lt hq6
       have HK6 := hid ((HK0.out.setCell (p := ⟨bd, 0, none⟩) (.inl HD.out.Fd) (.slice (some ⟨g, 0, none⟩) (s.length + 1) cap')).trans (hk6.mono (fun b _ e => e.elim)))
       clear hw6 hk6 e0 hc7 hq6))
  go_cut [] from 15 to 150 (fun wc => ∃ rn2 : List RN, RDocAt wc (fun b => (F b ∧ b < w.heap.size) ∨ w.heap.size + 1 ≤ b) bd g cap' rn2 rv ((s ++ [(⟨true, x.cs.drop k, [], (j : Int)⟩ : Nd)]).set j { y with ks := y.ks.take (m + 1) ++ s.length :: y.ks.drop (m + 1) }) [] ∧ Keeps F w wc ∧ wc.heap[w.heap.size]? = some (.cells #[.int .i64 0, .int .i64 0] 32 (0, 0)))
  case first =>
    go_region_with (
      go_at_call 117
      (have CW := with_any y.ks (.slice ya y.ks.length yc) (m + 1) s.length w6.drew HR6.out.drew (by omega) HY.out.2.2.2
       rw [show (((m + 1 : Nat)) : Int) = (m : Int) + 1 from by omega] at CW
       refine CW.mono ?_)
      rintro e w7 ⟨v', rfl, hrow, hb⟩
      have hD7 := HD6.out.narrow.below (w' := w7) ⟨hb.os, hb.tape, hb.output, hb.size, hb.block⟩
      have h07 := hD7.nodesCell
      rw [List.length_append] at h07
      simp only [List.length_cons, List.length_nil, Nat.zero_add] at h07
      obtain ⟨a', c', hv'⟩ := slice_shape hrow
      subst hv'
      obtain ⟨r8, hr8, ho8, -, -, hc8, -⟩ := hD7.look HY5.out
      have hf8 := hD7.nodes.frozenAt (j * 4 + 2)
      have hl7 := hD7.lt
      have HD7 := hid hD7
      have HB7 := hid hb
      have HROW := hid hrow
      clear hD7 hb hrow hr8 ho8)
    all_goals
      go_wp2_with fail
      go_meet
      case rel =>
        have hrow : w7.ownsRow w6.heap.size 3 1 (.slice a' (y.ks.length + 1) c') (y.ks.take (m + 1) ++ s.length :: y.ks.drop (m + 1)).length (intsV (y.ks.take (m + 1) ++ s.length :: y.ks.drop (m + 1))) := by
          have := HROW.out
          rw [show (y.ks.take (m + 1) ++ s.length :: y.ks.drop (m + 1)).length = y.ks.length + 1 by simp; omega]
          simp only [World.size_drew] at this
          exact this
        obtain ⟨rn2, h2⟩ := HD7.out.newKids (N := w6.heap.size) (fun b e => e.2) HY5.out hrow
        have hB7 : Below w6.heap.size w6 w7 := ⟨HB7.out.os, HB7.out.tape, HB7.out.output, HB7.out.size, HB7.out.block⟩
        have hg6 := HD6.out.Fn
        have hgn : ¬ g = w.heap.size := by rcases hg6 with e | e <;> omega
        refine ⟨rn2, h2.wider (fun b e => ?_), (HK6.out.trans (Keeps.of_below hB7)).setCell (p := ⟨g, j * 4 + 2, none⟩) (by rcases hg6 with e | e; exact .inl e.1; exact .inr (by show w.heap.size ≤ g; omega)) _, ?_⟩
        · rcases e with e | e
          · exact e.1
          · exact .inr (by omega)
        · rw [Below.heap_setCell _ _ _ _ (by simpa using fun e => hgn (Eq.symm e))]
          exact (hB7.block _ (heap_lt HQ6.out)).trans HQ6.out
  case rest =>
    obtain ⟨rn2, hD8, hK8, hq8⟩ := hcut
    have h08 := hD8.nodesCell
    rw [List.length_set, List.length_append] at h08
    simp only [List.length_cons, List.length_nil, Nat.zero_add] at h08
    have hr8 := hD8.rangesCell
    rw [hrve] at hr8
    have hx8 : ((s ++ [(⟨true, x.cs.drop k, [], (j : Int)⟩ : Nd)]).set j { y with ks := y.ks.take (m + 1) ++ s.length :: y.ks.drop (m + 1) })[n]? = some x := by rw [List.getElem?_set_ne (fun e => hnj e.symm)]; exact HX5.out
    have CR := hid (replace_any hD8 n k (x.cs.length - k) x hx8 hlen (by omega) (.slice none 0 0) [] (by decide) (World.ownsRow_nil _ _ _ _))
    have HK8 := hid hK8
    have HQ8 := hid hq8
    have hl8 := hD8.lt
    clear hD8 hK8 hq8 hx8
    go_wp2
    refine wp_loop_rounds 1 ?_
    rw [rounds_succ]
    go_wp2_with (
       go_at_call 125
       refine CR.out.mono ?_
       rintro e w9 ⟨rfl, hk9, hr9⟩
       have hz9 := (hk9.block _ (heap_lt HQ8.out) (fun e => by rcases e with e | e; exact Nat.lt_irrefl _ e.2; omega)).trans HQ8.out
       have cz5 : w9.cell? ⟨w.heap.size, 0, none⟩ = some (.int .i64 0) := cell_of_heap hz9 0
       have cz6 : w9.cell? ⟨w.heap.size, 1, none⟩ = some (.int .i64 0) := cell_of_heap hz9 1
       have fz5 := frozen_of_heap hz9 0
       have fz6 := frozen_of_heap hz9 1
       have hs5 := heap_lt hz9
       have HK9 := hid hk9
       have HR9 := hid hr9
       clear hk9 hr9 hz9)
    refine bodyPost_ret (v := .tuple #[.int .i64 s.length, rfltV 0 0]) (by simp [results, Tryz.results79, go_sem, cz5, cz6, fz5, fz6, hs5]) rfl ?_
    have hk6 : Keeps F w w9 := HK8.out.trans (HK9.out.mono (fun b _ e => by rcases e with e | e; exact .inl e.1; exact .inr (by omega)))
    have hk7 : Keeps (fun b => b = w.heap.size) w9 ((w9.setCell ⟨w.heap.size, 0, none⟩ (.int .i64 0)).setCell ⟨w.heap.size, 1, none⟩ (.int .i64 0)) := ((Keeps.refl (fun b => b = w.heap.size) w9).setCell (p := ⟨w.heap.size, 0, none⟩) (.inl rfl) _).setCell (p := ⟨w.heap.size, 1, none⟩) (.inl rfl) _
    obtain ⟨bn6, cap6, rn6, rv6, hD6⟩ := HR9.out.keeps hk7 (fun b e e2 => by have := heap_lt HQ8.out; rcases e with (e | e) | e <;> omega)
    refine ⟨rfl, (hk6.setCell (p := ⟨w.heap.size, 0, none⟩) (.inr (Nat.le_refl _)) _).setCell (p := ⟨w.heap.size, 1, none⟩) (.inr (Nat.le_refl _)) _, bn6, cap6, rn6, rv6, ?_⟩
    have e7 : x.cs.take k ++ [] ++ x.cs.drop (k + (x.cs.length - k)) = x.cs.take k := by rw [List.drop_of_length_le (by omega)]; simp
    rw [e7] at hD6
    refine hD6.wider (fun b e => ?_)
    rcases e with (e | e) | e
    · exact .inl e.1
    · exact .inr (by omega)
    · exact .inr (by have := heap_lt HQ8.out; omega)
end
end Go.Proofs.YtabogkonklplcaaGreatDoor
