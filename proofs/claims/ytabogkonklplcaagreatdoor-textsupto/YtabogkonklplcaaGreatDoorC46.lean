import Derived.Test.YtabogkonklplcaaGreatDoorC45
import Derived.Test.YtabogkonklplcaaGreatDoorC43
import Derived.Test.YtabogkonklplcaaGreatDoorC26

/- tree.Split, of a text that has a parent. -/
namespace Go.Proofs.YtabogkonklplcaaGreatDoor
open Go.RowKit Go.Lib
set_option linter.unusedSimpArgs false
set_option linter.unusedVariables false

section
variable {w : World} {F : Nat → Prop} {bf : Nat} {s : List Nd}

set_option maxRecDepth 20000 in
set_option maxHeartbeats 1000000 in
theorem tsplit_in (hD : PFor w F bf s) (n k : Nat) (x : Nd) (hx : s[n]? = some x) (ht : x.t = true) (hch : ∀ d ∈ x.cs, IsCh d) (hl : x.cs.length ≤ 30) (ho : k ≤ x.cs.length) (h40 : s.length < 40) (j m : Nat) (y : Nd) (hp1 : x.p = j) (hy : s[j]? = some y) (hm : y.ks[m]? = some n) (hno : n ∉ y.ks.take m) (hkb : y.ks.length < lots) (hnj : n ≠ j) :
    Calls Tryz.prog 63 #[ptr bf, .int .i64 n, .int .i64 (k : Int)] w (TSv (carryF n k s.length (shiftF j m 1)) F w bf ((((s ++ [(⟨true, x.cs.drop k, [], -1⟩ : Nd)]).set n { x with cs := x.cs.take k }).set j { y with ks := y.ks.take (m + 1) ++ s.length :: y.ks.drop (m + 1) }).set s.length { (⟨true, x.cs.drop k, [], -1⟩ : Nd) with p := j }) s.length) := by
  obtain ⟨sF, hsF⟩ : ∃ sF, ((((s ++ [(⟨true, x.cs.drop k, [], -1⟩ : Nd)]).set n { x with cs := x.cs.take k }).set j { y with ks := y.ks.take (m + 1) ++ s.length :: y.ks.drop (m + 1) }).set s.length { (⟨true, x.cs.drop k, [], -1⟩ : Nd) with p := j }) = sF := ⟨_, rfl⟩
  rw [hsF]
  have HS := hid hsF
  clear hsF
  have HD := hid hD
  obtain ⟨bn, cap, pn, hD⟩ := hD
  have hi : n < s.length := (List.getElem?_eq_some_iff.1 hx).1
  have C := hid (findText_ok hD n x hx ht)
  have C2 := hid (fun w1 => find_at x.cs hch (by unfold lots; omega) k ho w1)
  have CC := hid (fun w1 => count_any (x.cs.drop k) (fun d hd => hch d (List.mem_of_mem_drop hd)) (by simp; unfold lots; omega) w1)
  have h0 := hD.nodesCell
  obtain ⟨r, hr, ho', c0, c1, c2, c3⟩ := hD.look hx
  have s1 := (cat_split x.cs k).2
  have s2 := (cat_split x.cs k).1
  have z1 := cat_le x.cs k
  have z2 := cat_size x.cs hch
  have H4 := hid h40
  have HX := hid hx
  have HP := hid hp1
  have hjl : j < s.length := (List.getElem?_eq_some_iff.1 hy).1
  have hml : m < y.ks.length := (List.getElem?_eq_some_iff.1 hm).1
  have hkb' := hkb
  unfold lots at hkb'
  have HY := hid (And.intro hy (And.intro hm (And.intro hno hkb)))
  have hneg : ((j : Int) == -1) = false := by simp
  have hm64 : (m : Int) + 1 ≤ 9223372036854775807 := by omega
  obtain ⟨p, hp⟩ : ∃ p, (catB (x.cs.take k)).size = p := ⟨_, rfl⟩
  rw [hp] at C2 s1 s2 z1
  obtain ⟨S, hS⟩ : ∃ S, catB x.cs = S := ⟨_, rfl⟩
  rw [hS] at C2 s1 s2 z1 c3 z2
  have pI : (p : Int) ≤ S.size := by omega
  clear hD c0 c1 c2 hr ho' hx hch hp hS h40 hp1 hy hm hno hkb
  go_enter Tryz.func63, Tryz.ntmps63
  go_wp2_with first
    | (go_at_call 101; refine C.out.mono ?_; rintro e w1 ⟨rfl, hw1⟩; replace hw1 := hw1.symm; subst hw1)
    | (go_at_call 102; refine (C2.out _).mono ?_; rintro e w2 ⟨rfl, hb2⟩)
    | (go_at_call 103; refine (addText_some (HD.out.below hb2) H4.out (x.cs.drop k) n).mono ?_; rintro e w3 ⟨rfl, hk3, bn3, cap3, pn3, hf3⟩
       have hx3 : (s ++ [(⟨true, x.cs.drop k, [], -1⟩ : Nd)])[n]? = some x := by rw [List.getElem?_append_left hi]; exact HX.out
       have g0 := hf3.nodesCell
       rw [List.length_append] at g0
       simp only [List.length_cons, List.length_nil, Nat.zero_add] at g0
       obtain ⟨r3, hr3, ho3, e0, e1, e2, e3⟩ := hf3.look hx3
       rw [HP.out] at e0
       obtain ⟨gv, g4, gf⟩ := hf3.cellsThere (i := n) (k := 3) (by rw [List.length_append]; omega) (by omega)
       obtain ⟨pn4, h4⟩ := hf3.newChars (cs' := x.cs.take k) hx3
       have hx4 : ((s ++ [(⟨true, x.cs.drop k, [], -1⟩ : Nd)]).set n { x with cs := x.cs.take k })[n]? = some { x with cs := x.cs.take k } := by rw [List.getElem?_set_self (by rw [List.length_append]; omega)]
       have hy4 : ((s ++ [(⟨true, x.cs.drop k, [], -1⟩ : Nd)]).set n { x with cs := x.cs.take k })[j]? = some y := by rw [List.getElem?_set_ne hnj, List.getElem?_append_left hjl]; exact HY.out.1
       have hz4 : ((s ++ [(⟨true, x.cs.drop k, [], -1⟩ : Nd)]).set n { x with cs := x.cs.take k })[s.length]? = some (⟨true, x.cs.drop k, [], -1⟩ : Nd) := by rw [List.getElem?_set_ne (by omega), List.getElem?_append_right (Nat.le_refl _)]; simp
       have HC := hid (And.intro hx4 (And.intro hy4 hz4))
       have H5 := hid (And.intro hk3 (And.intro h4 hf3.Fn))
       clear hx4 hy4 hz4
       have hlt3 := hf3.lt
       have hne3 : ¬ bf = bn3 := hf3.ne
       clear hr3 ho3 e1 e2 hk3 h4 hf3 hx3)
  go_region
  have C5 := hid (tindex_at H5.out.2.1.drew n j m _ y HC.out.1 HP.out HC.out.2.1 HY.out.2.1 HY.out.2.2.1 (by rw [List.length_set, List.length_append]; simp; unfold lots; have := H4.out; omega) HY.out.2.2.2)
  have C6 := hid (fun q => attach_any (H5.out.2.1.drewN q) j s.length (m + 1) y _ HC.out.2.1 HC.out.2.2 (by omega) (by omega) (by rw [List.length_set, List.length_append]; simp; unfold lots; have := H4.out; omega) HY.out.2.2.2)
  rw [show (((m + 1 : Nat)) : Int) = (m : Int) + 1 from by omega] at C6
  go_wp2_with first
    | (go_at_call 106; refine C5.out.mono ?_; rintro e w5 ⟨rfl, q, rfl⟩)
    | (go_at_call 107; refine (C6.out (1 + q)).mono ?_; rintro e w6 ⟨rfl, hk6, hf6⟩)
    | (go_at_call 109; refine (shift_at _ _ _ (by decide) (by decide) _).mono ?_; rintro e w7 ⟨x7, y7, z7, rfl, hb7, hS7, l71, l72, l73⟩
       have H7 := hid (And.intro hS7 (And.intro l71 (And.intro l72 l73)))
       clear hS7 l71 l72 l73)
    | (go_at_call 108; refine (carry_at _ _ _ _ _ _ _ _ _ w6.heap.size _ H7.out.1 H7.out.2 hb7.size (by omega) (by omega)).mono ?_; rintro e w8 ⟨bs8, rfl, hb8, hM8⟩
       have H8 := hid hM8
       clear hM8)
  refine bodyPost_ret (v := .tuple #[.int .i64 s.length, .func (.func 157) #[] bs8, .nilIface]) (by simp [results, Tryz.results63, go_sem]) rfl ?_
  obtain ⟨hk3, h4, hfn⟩ := H5.out
  have hb := hb7.trans (hb8.mono hb7.size)
  have hz2 := hb2.size
  have hz3 := hk3.size
  have hk : Keeps F w w3 := (Keeps.of_below hb2).trans (hk3.mono (fun b _ e => .inl e))
  have hk5 : Keeps F w ((w3.setCell ⟨bn3, n * 4 + 3, none⟩ (.string (catB (x.cs.take k)))).drewN (1 + q)) := by
    have h6 := hk.setCell (p := ⟨bn3, n * 4 + 3, none⟩) (by rcases hfn with e | e; exact .inl e; exact .inr (by show w.heap.size ≤ bn3; omega)) (.string (catB (x.cs.take k)))
    exact ⟨h6.os, h6.tape, h6.output, h6.size, h6.block⟩
  have hk7 : Keeps F w w6 := hk5.trans (hk6.mono (fun b _ e => by rcases e with e | e; exact .inl e; exact .inr (by omega)))
  rw [HS.out] at hf6
  obtain ⟨bn6, cap6, pn6, hf6⟩ := hf6
  have hz6 := hk6.size
  have hsz : ((w3.setCell ⟨bn3, n * 4 + 3, none⟩ (.string (catB (x.cs.take k)))).drewN (1 + q)).heap.size = w3.heap.size := by show (w3.setCell _ _).heap.size = _; rw [World.size_setCell]
  refine ⟨_, w6.heap.size, rfl, hk7.trans (Keeps.of_below hb), by omega, Nat.le_trans hb7.size hb8.size, ⟨bn6, cap6, pn6, (hf6.narrow.below hb).wider (fun b h => ?_)⟩, H8.out⟩
  have hb6 := h.2
  rcases h.1 with (e | e) | e
  · exact .inl e
  · exact .inr ⟨by omega, hb6⟩
  · exact .inr ⟨by omega, hb6⟩
end

end Go.Proofs.YtabogkonklplcaaGreatDoor

/- marginref's Split: what it refuses. -/
namespace Go.Proofs.YtabogkonklplcaaGreatDoor
open Go.RowKit
set_option linter.unusedSimpArgs false
set_option linter.unusedVariables false

section
variable {w : World} {F : Nat → Prop} {bd bn cap : Nat} {rn : List RN} {rv : Value} {s : List Nd} {rs : List Sp}

set_option maxRecDepth 20000 in
set_option maxHeartbeats 1000000 in
theorem rsplit_unfit (n k : Int) (f0 f1 : Int) (h1 : f1 ≠ 0) (hT : Calls Tryz.prog 123 #[.pointer (some ⟨bd, 0, none⟩), .int .i64 n, .int .i64 k] (one0 w) fun e w' => e = .returned (rfltV f0 f1) ∧ Below (one0 w).heap.size (one0 w) w') :
    Calls Tryz.prog 79 #[.pointer (some ⟨bd, 0, none⟩), .int .i64 n, .int .i64 k] w fun e w' => e = .returned (.tuple #[.int .i64 0, rfltV f0 f1]) ∧ Below w.heap.size w w' := by
  have CF := hid hT
  have h1b : (f1 == 0) = false := by simpa using h1
  have HTB := hid (one0_below w)
  clear hT h1
  go_enter Tryz.func79, Tryz.ntmps79
  go_wp2_with (first
    | (go_at_call 123; refine CF.out.mono ?_; rintro e w1 ⟨rfl, hb1⟩
       have hq2 : w1.heap[w.heap.size]? = some (.cells #[.int .i64 0, .int .i64 0] 32 (0, 0)) := by
         rw [hb1.block _ (by simp)]
         exact heap_alloc_new w _
       have hs1 : w.heap.size + 1 ≤ w1.heap.size := by have := hb1.size; simpa using this
       have HB1 := hid (HTB.out.trans (hb1.mono HTB.out.size))
       have HQ2 := hid hq2
       clear hb1 hq2)
    | (go_at_call 124; refine (fine_any f0 f1 _).mono ?_; rintro e w2 ⟨rfl, hb2⟩
       have hf2 : w2.heap[w1.heap.size]? = some (.cells #[.int .i64 f0, .int .i64 f1] 32 (0, 0)) := (hb2.block _ (by simp)).trans (heap_alloc_new w1 _)
       have hz2 : w2.heap[w.heap.size]? = some (.cells #[.int .i64 0, .int .i64 0] 32 (0, 0)) :=
         (hb2.block _ (by simp; omega)).trans ((((Below.refl _ w1).alloc (Nat.le_refl _) _).block _ (by omega)).trans HQ2.out)
       have cf0 : w2.cell? ⟨w1.heap.size, 0, none⟩ = some (.int .i64 f0) := cell_of_heap hf2 0
       have cf1 : w2.cell? ⟨w1.heap.size, 1, none⟩ = some (.int .i64 f1) := cell_of_heap hf2 1
       have cz0 : w2.cell? ⟨w.heap.size, 0, none⟩ = some (.int .i64 0) := cell_of_heap hz2 0
       have cz1 : w2.cell? ⟨w.heap.size, 1, none⟩ = some (.int .i64 0) := cell_of_heap hz2 1
       have fz0 := frozen_of_heap hz2 0
       have fz1 := frozen_of_heap hz2 1
       have HB2 := hid ((HB1.out.alloc HB1.out.size _).trans (hb2.mono (Nat.le_trans HB1.out.size (by simp))))
       have hs2 : w.heap.size + 1 ≤ w2.heap.size := by have := hb2.size; simp at this; omega
       clear hb2 hf2
       skip
       rw [h1b]))
  go_region
  all_goals
    go_wp2
    refine bodyPost_ret (v := .tuple #[.int .i64 0, rfltV f0 f1]) (by simp [results, Tryz.results79, go_sem, *]) rfl ?_
    exact ⟨rfl, ((HB2.out.setCell (p := ⟨w.heap.size, 0, none⟩) (Nat.le_refl _) _).setCell (p := ⟨w.heap.size, 1, none⟩) (Nat.le_refl _) _).drew⟩

set_option maxRecDepth 20000 in
set_option maxHeartbeats 1000000 in
theorem rsplit_full (hD : RDocAt w F bd bn cap rn rv s rs) (n k : Nat) (x : Nd) (hx : s[n]? = some x) (ht : x.t = true) (hk : k ≤ x.cs.length) (h40 : 40 ≤ s.length) :
    Calls Tryz.prog 79 #[.pointer (some ⟨bd, 0, none⟩), .int .i64 n, .int .i64 k] w fun e w' => e = .returned (.tuple #[.int .i64 0, rfltV n 7]) ∧ Below w.heap.size w w' := by
  have CF := hid (textFits_ok (hD.below (one0_below w)) n k x hx ht hk)
  have h1b : ((0 : Int) == 0) = true := rfl
  have h40b : decide ((40 : Int) ≤ (s.length : Int)) = true := decide_eq_true (by omega)
  have h0 := hD.nodesCell
  have hlt := hD.lt
  have HTB := hid (one0_below w)
  clear hD hx ht hk
  go_enter Tryz.func79, Tryz.ntmps79
  go_wp2_with (first
    | (go_at_call 123; refine CF.out.mono ?_; rintro e w1 ⟨rfl, hb1⟩
       have hq2 : w1.heap[w.heap.size]? = some (.cells #[.int .i64 0, .int .i64 0] 32 (0, 0)) := by
         rw [hb1.block _ (by simp)]
         exact heap_alloc_new w _
       have hs1 : w.heap.size + 1 ≤ w1.heap.size := by have := hb1.size; simpa using this
       have HB1 := hid (HTB.out.trans (hb1.mono HTB.out.size))
       have HQ2 := hid hq2
       clear hb1 hq2)
    | (go_at_call 124; refine (fine_any 0 0 _).mono ?_; rintro e w2 ⟨rfl, hb2⟩
       have hf2 : w2.heap[w1.heap.size]? = some (.cells #[.int .i64 0, .int .i64 0] 32 (0, 0)) := (hb2.block _ (by simp)).trans (heap_alloc_new w1 _)
       have hz2 : w2.heap[w.heap.size]? = some (.cells #[.int .i64 0, .int .i64 0] 32 (0, 0)) :=
         (hb2.block _ (by simp; omega)).trans ((((Below.refl _ w1).alloc (Nat.le_refl _) _).block _ (by omega)).trans HQ2.out)
       have cf0 : w2.cell? ⟨w1.heap.size, 0, none⟩ = some (.int .i64 0) := cell_of_heap hf2 0
       have cf1 : w2.cell? ⟨w1.heap.size, 1, none⟩ = some (.int .i64 0) := cell_of_heap hf2 1
       have cz0 : w2.cell? ⟨w.heap.size, 0, none⟩ = some (.int .i64 0) := cell_of_heap hz2 0
       have cz1 : w2.cell? ⟨w.heap.size, 1, none⟩ = some (.int .i64 0) := cell_of_heap hz2 1
       have fz0 := frozen_of_heap hz2 0
       have fz1 := frozen_of_heap hz2 1
       have HB2 := hid ((HB1.out.alloc HB1.out.size _).trans (hb2.mono (Nat.le_trans HB1.out.size (by simp))))
       have hs2 : w.heap.size + 1 ≤ w2.heap.size := by have := hb2.size; simp at this; omega
       clear hb2 hf2
       have HZ := hid hz2
       have d0 := (HB2.out.cell (p := ⟨bd, 0, none⟩) hlt.1).trans h0
       clear hz2
       rw [h1b])
    | (go_at_call 48; refine (no_any _ _ _).mono ?_; rintro e w5 ⟨rfl, hw5⟩
       have hz5 : w5.heap[w.heap.size]? = some (.cells #[.int .i64 0, .int .i64 0] 32 (0, 0)) := by rw [hw5]; exact (Below.heap_alloc _ _ _ (heap_lt HZ.out)).trans HZ.out
       have cz5 : w5.cell? ⟨w.heap.size, 0, none⟩ = some (.int .i64 0) := cell_of_heap hz5 0
       have cz6 : w5.cell? ⟨w.heap.size, 1, none⟩ = some (.int .i64 0) := cell_of_heap hz5 1
       have fz5 := frozen_of_heap hz5 0
       have fz6 := frozen_of_heap hz5 1
       have hs5 := heap_lt hz5
       have HB5 : Hid (Below w.heap.size w w5) := by rw [hw5]; exact HB2.out.alloc HB2.out.size _
       clear hz5 hw5))
  refine bodyPost_ret (v := .tuple #[.int .i64 0, rfltV n 7]) (by simp [results, Tryz.results79, go_sem, cz5, cz6, fz5, fz6, hs5]) rfl ?_
  exact ⟨rfl, (HB5.out.setCell (p := ⟨w.heap.size, 0, none⟩) (Nat.le_refl _) _).setCell (p := ⟨w.heap.size, 1, none⟩) (Nat.le_refl _) _⟩
end
end Go.Proofs.YtabogkonklplcaaGreatDoor

/- marginref's Split, done. -/
namespace Go.Proofs.YtabogkonklplcaaGreatDoor
open Go.RowKit
set_option linter.unusedSimpArgs false
set_option linter.unusedVariables false

/-- A row from one of its places on: nil, or cells. -/
theorem slice_tail {w0 : World} {t e : TypeId} {n : Nat} {v : Value} {xs : List Value} (ht : Tryz.prog.underlying t = some (.slice e)) (he : Tryz.prog.elem t = e) (hs : ∀ w, (sizeOf e).run Tryz.prog w = .ok 1 w) (hr : w0.ownsRow 0 e 1 v n xs) (h1 : ∀ u ∈ xs, u.oneCell' = true) (k : Nat) (hk : k ≤ n) (hnil : ∀ w, (Instr.slice t (.slice none 0 0) (some (.int .i64 0)) none none).run Tryz.prog w = .ok (.slice none 0 0) w) :
    ∃ a c, (∀ w, (Instr.slice t v (some (.int .i64 (k : Int))) none none).run Tryz.prog w = .ok (.slice a (n - k) c) w) ∧ ∀ w : World, w.ownsRow 0 e 1 v n xs → SrcOk w 1 (.slice a (n - k) c) (n - k) (xs.drop k) := by
  rcases row_cases hr with ⟨hv, h0⟩ | ⟨g, cc, hgv⟩
  · subst h0
    have hk0 : k = 0 := by omega
    subst hk0 hv
    have hx : xs = [] := List.length_eq_zero_iff.1 (by have := hr.1; omega)
    subst hx
    exact ⟨none, 0, hnil, fun w _ => .inl ⟨rfl, rfl, rfl⟩⟩
  · subst hgv
    obtain ⟨ad, hsl, hsrc⟩ := slice_from ht he hs hr k hk
    refine ⟨some ad, cc - k, hsl, fun w h => ?_⟩
    have hl := hr.1
    unfold SrcOk
    exact Or.inr ⟨ad, cc - k, rfl, by simp; omega, hsrc w h, fun u hu => h1 u (List.mem_of_mem_drop hu)⟩

section
variable {w : World} {F : Nat → Prop} {bd bn cap : Nat} {rn : List RN} {rv : Value} {s : List Nd} {rs : List Sp}

set_option maxRecDepth 20000 in
set_option maxHeartbeats 2000000 in
theorem rsplit_top (hD : RDocAt w F bd bn cap rn rv s []) (n k : Nat) (x : Nd) (hx : s[n]? = some x) (ht : x.t = true) (hlen : x.cs.length ≤ 30) (hk : k ≤ x.cs.length) (h40 : s.length < 40) (hp : x.p < 0) :
    Calls Tryz.prog 79 #[.pointer (some ⟨bd, 0, none⟩), .int .i64 n, .int .i64 k] w fun e w' => e = .returned (.tuple #[.int .i64 s.length, rfltV 0 0]) ∧ Keeps F w w' ∧
      RDoc w' (fun b => F b ∨ w.heap.size ≤ b) bd ((s ++ [(⟨true, x.cs.drop k, [], x.p⟩ : Nd)]).set n { x with cs := x.cs.take k }) [] := by
  obtain ⟨i0, hi, hz0, hz1, hz2⟩ := info_parts Tryz.info9
  obtain ⟨j0, hj, jz0, jz1, jz2⟩ := info_parts Tryz.info119
  have hn : n < s.length := (List.getElem?_eq_some_iff.1 hx).1
  have CF := hid (textFits_ok (hD.below (one0_below w)) n k x hx ht hk)
  have h1b : ((0 : Int) == 0) = true := rfl
  have h40b : decide ((40 : Int) ≤ (s.length : Int)) = false := decide_eq_false (by omega)
  have h0 := hD.nodesCell
  have hlt := hD.lt
  have hlenE := hD.len
  have hpd : decide (0 ≤ x.p) = false := decide_eq_false (by omega)
  have hpd' : ¬ (0 : Int) ≤ x.p := by omega
  obtain ⟨r, hr, ho, -, hc1, -, hc3⟩ := hD.look hx
  obtain ⟨ta, tc, hsl, hsrc⟩ := slice_tail (t := 107) Tryz.underlying107 Tryz.elem107 Tryz.sizeOf9 ho.chars (strsV_one _) k hk (fun w => by kernel_rfl)
  obtain ⟨ca, cc, hcv⟩ := slice_shape ho.chars
  rw [hcv] at hc1 hsl hsrc
  have HROW := hid ho.chars
  rw [hcv] at HROW
  have HSRC := hid hsrc
  have HTB := hid (one0_below w)
  have HD := hid hD
  have HX := hid hx
  clear hD hr ho hcv hx ht hsrc
  go_enter Tryz.func79, Tryz.ntmps79
  go_wp2_with (first
    | (go_at_call 123; refine CF.out.mono ?_; rintro e w1 ⟨rfl, hb1⟩
       have hq2 : w1.heap[w.heap.size]? = some (.cells #[.int .i64 0, .int .i64 0] 32 (0, 0)) := by
         rw [hb1.block _ (by simp)]
         exact heap_alloc_new w _
       have hs1 : w.heap.size + 1 ≤ w1.heap.size := by have := hb1.size; simpa using this
       have HB1 := hid (HTB.out.trans (hb1.mono HTB.out.size))
       have HQ2 := hid hq2
       clear hb1 hq2)
    | (go_at_call 124; refine (fine_any 0 0 _).mono ?_; rintro e w2 ⟨rfl, hb2⟩
       have hf2 : w2.heap[w1.heap.size]? = some (.cells #[.int .i64 0, .int .i64 0] 32 (0, 0)) := (hb2.block _ (by simp)).trans (heap_alloc_new w1 _)
       have hz2 : w2.heap[w.heap.size]? = some (.cells #[.int .i64 0, .int .i64 0] 32 (0, 0)) :=
         (hb2.block _ (by simp; omega)).trans ((((Below.refl _ w1).alloc (Nat.le_refl _) _).block _ (by omega)).trans HQ2.out)
       have cf0 : w2.cell? ⟨w1.heap.size, 0, none⟩ = some (.int .i64 0) := cell_of_heap hf2 0
       have cf1 : w2.cell? ⟨w1.heap.size, 1, none⟩ = some (.int .i64 0) := cell_of_heap hf2 1
       have cz0 : w2.cell? ⟨w.heap.size, 0, none⟩ = some (.int .i64 0) := cell_of_heap hz2 0
       have cz1 : w2.cell? ⟨w.heap.size, 1, none⟩ = some (.int .i64 0) := cell_of_heap hz2 1
       have fz0 := frozen_of_heap hz2 0
       have fz1 := frozen_of_heap hz2 1
       have HB2 := hid ((HB1.out.alloc HB1.out.size _).trans (hb2.mono (Nat.le_trans HB1.out.size (by simp))))
       have hs2 : w.heap.size + 1 ≤ w2.heap.size := by have := hb2.size; simp at this; omega
       clear hb2
       have HZ := hid hz2
       have d0 := (HB2.out.cell (p := ⟨bd, 0, none⟩) hlt.1).trans h0
       have d1 := (HB2.out.cell (p := ⟨bn, n * 4 + 1, none⟩) hlt.2).trans hc1
       have d3 := (HB2.out.cell (p := ⟨bn, n * 4 + 3, none⟩) hlt.2).trans hc3
       have S2 := hid (HSRC.out w2 ((Keeps.of_below (F := fun _ => False) HB2.out).row HROW.out (fun _ _ e => e)))
       have HF := hid (And.intro hf2 hf2)
       clear hz2
       rw [h1b])
    | (at_builtin; refine wpList_append_any _ rfl (.tmp 32) (.tmp 42) 107 rfl w2.heap.size 9 i0 (.string ByteArray.empty) 1 16 Tryz.underlying107 hi hz0 hz1 hz2 rfl (by decide) (.slice none 0 0) 0 [] rfl (World.ownsRow_nil _ _ _ _) _ _ _ rfl S2.out (by unfold maxLen; omega) (by omega) (Nat.le_refl _) ?_
       intro v1 w3 ho1 hb1
       obtain ⟨va, vc, hv1⟩ := slice_shape ho1
       subst hv1
       have hh := HB2.out.trans (hb1.mono HB2.out.size)
       have hz := hh.size
       have d0' := (hh.cell (p := ⟨bd, 0, none⟩) hlt.1).trans h0
       have d3' := (hh.cell (p := ⟨bn, n * 4 + 3, none⟩) hlt.2).trans hc3
       have HO1 := hid ho1
       have HB3 := hid hh
       have hz3 : w3.heap[w.heap.size]? = some (.cells #[.int .i64 0, .int .i64 0] 32 (0, 0)) := (hb1.block _ (heap_lt HZ.out)).trans HZ.out
       have HZ3 := hid hz3
       have HW3 := hid (And.intro hz (heap_lt hz3))
       go_must (have HD2 : Hid (RDocAt (w3.alloc (.cells #[.bool true, .slice va (0 + (x.cs.length - k)) vc, .slice none 0 0, .int .i64 x.p] 119)) (fun b => F b ∧ b < w.heap.size) bd bn cap rn rv s []) :=
         HD.out.narrow.below (hh.alloc hh.size _))
       clear ho1 hb1 hh hz3)
    | (at_builtin
       refine wpList_append_lies _ rfl (.tmp 61) (.tmp 65) 120 rfl 0 119 j0 _ 4 64 Tryz.underlying120 hj jz0 jz1 jz2 rfl (by decide) (.slice (some ⟨bn, 0, none⟩) s.length cap) s.length _ rfl (by have := HD2.out.nodes; rw [hlenE] at this; simp only [Nat.zero_add] at this; exact this) ⟨w3.heap.size, 0, none⟩ 1 1 [.bool true, .slice va (x.cs.length - k) vc, .slice none 0 0, .int .i64 x.p] rfl rfl (World.news_of_block (heap_alloc_new w3 _)) (by simp [Value.oneCell']) (by decide) (by unfold maxLen; omega) (by omega) (Nat.zero_le _) (w3.heap.size + 1) (by simp) ?_
       intro g cap' w4 ho (hg : World.grownBy _ w4 (some bn)) (hgn : some bn = some g ∨ _) _
       have z0 := HW3.out.1
       have z1 := HW3.out.2
       have hD2 := HD2.out
       simp only [Nat.zero_add] at hD2
       have hd1 := (hg.block bd (by simp only [World.size_alloc]; omega) (by simpa using hD2.ne)).trans hD2.doc
       have hcD : w4.cell? ⟨bd, 0, none⟩ = some (.slice (some ⟨bn, 0, none⟩) rn.length cap) := cell_of_heap hd1 0
       have hfD := frozen_of_heap hd1 0
       have hq1 := (hg.block w.heap.size (by simp only [World.size_alloc]; omega) (by simp; omega)).trans ((Below.heap_alloc _ _ _ z1).trans HZ3.out)
       have hcr := HO1.out
       simp only [Nat.zero_add, List.nil_append] at hcr
       have hcb : ∀ b, (Value.slice va (x.cs.length - k) vc).ownBlock = some b → w2.heap.size ≤ b := fun b e => (hcr.lt b e).1
       have hcs : (x.cs.drop k).length = x.cs.length - k := by simp
       have hcv : (strsV x.cs).drop k = strsV (x.cs.drop k) := by simp [strsV]
       have hp5 := hD2.pushed (B := w.heap.size + 1) (x := ⟨true, x.cs.drop k, [], x.p⟩) (r := ⟨true, .slice va (x.cs.length - k) vc, .slice none 0 0, x.p⟩) (by simp only [World.size_alloc]; omega) hg (by rw [hlenE]; exact ho) (by rcases hgn with e | e; exact .inl (by cases e; rfl); exact .inr (by simpa using e))
         ⟨rfl, rfl, by rw [hcs, ← hcv]; exact ownsRow_zero (hcr.alloc _), World.ownsRow_nil _ _ _ _, fun b e => ⟨.inr (by have := hcb b e; omega), by have := hcb b e; omega, by have := hcb b e; omega, fun e2 => by have := hcb b e; have := (HD.out.ranges.lt b e2).2; omega⟩, fun b e => (by cases e)⟩
       rw [hlenE] at hp5 hcD
       have hk0 : Keeps F w w4 := ((Keeps.of_below (F := F) HB3.out).alloc _).trans (Keeps.grown hg (fun k e => by cases e; exact .inl (.inl HD.out.Fn)))
       have hq5 : (w4.setCell ⟨bd, 0, none⟩ (.slice (some ⟨g, 0, none⟩) (s.length + 1) cap')).heap[w.heap.size]? = some (.cells #[.int .i64 0, .int .i64 0] 32 (0, 0)) := by
         rw [Below.heap_setCell _ _ _ _ (by simp; omega)]; exact hq1
       have HP5 := hid hp5
       have HK0 := hid hk0
       have HQ5 := hid hq5
       have CR := hid (replace_any hp5 n k (x.cs.length - k) x (by rw [List.getElem?_append_left hn]; exact HX.out) hlen (by omega) (.slice none 0 0) [] (by decide) (World.ownsRow_nil _ _ _ _))
       clear hd1 hq1 hg ho hgn hp5 hk0 hq5 hD2 hcr hcb hcs hcv)
    | (go_at_call 125
       refine CR.out.mono ?_
       rintro e w5 ⟨rfl, hk5, hr5⟩
       have hz5 := (hk5.block _ (heap_lt HQ5.out) (fun e => by rcases e with e | e; exact Nat.lt_irrefl _ e.2; omega)).trans HQ5.out
       have cz5 : w5.cell? ⟨w.heap.size, 0, none⟩ = some (.int .i64 0) := cell_of_heap hz5 0
       have cz6 : w5.cell? ⟨w.heap.size, 1, none⟩ = some (.int .i64 0) := cell_of_heap hz5 1
       have fz5 := frozen_of_heap hz5 0
       have fz6 := frozen_of_heap hz5 1
       have hs5 := heap_lt hz5
       have HK5 := hid hk5
       have HR5 := hid hr5
       clear hk5 hr5 hz5))
  refine bodyPost_ret (v := .tuple #[.int .i64 s.length, rfltV 0 0]) (by simp [results, Tryz.results79, go_sem, cz5, cz6, fz5, fz6, hs5]) rfl ?_
  have hk6 : Keeps F w w5 := (HK0.out.setCell (p := ⟨bd, 0, none⟩) (.inl HD.out.Fd) _).trans (HK5.out.mono (fun b _ e => by rcases e with e | e; exact .inl e.1; exact .inr (by omega)))
  have hk7 : Keeps (fun b => b = w.heap.size) w5 ((w5.setCell ⟨w.heap.size, 0, none⟩ (.int .i64 0)).setCell ⟨w.heap.size, 1, none⟩ (.int .i64 0)) := ((Keeps.refl (fun b => b = w.heap.size) w5).setCell (p := ⟨w.heap.size, 0, none⟩) (.inl rfl) _).setCell (p := ⟨w.heap.size, 1, none⟩) (.inl rfl) _
  obtain ⟨bn6, cap6, rn6, rv6, hD6⟩ := HR5.out.keeps hk7 (fun b e e2 => by have := heap_lt HQ5.out; rcases e with (e | e) | e <;> omega)
  refine ⟨rfl, (hk6.setCell (p := ⟨w.heap.size, 0, none⟩) (.inr (Nat.le_refl _)) _).setCell (p := ⟨w.heap.size, 1, none⟩) (.inr (Nat.le_refl _)) _, bn6, cap6, rn6, rv6, ?_⟩
  have e7 : x.cs.take k ++ [] ++ x.cs.drop (k + (x.cs.length - k)) = x.cs.take k := by rw [List.drop_of_length_le (by omega)]; simp
  rw [e7] at hD6
  refine hD6.wider (fun b e => ?_)
  rcases e with (e | e) | e
  · exact .inl e.1
  · exact .inr (by omega)
  · exact .inr (by have := heap_lt HQ5.out; omega)
end
end Go.Proofs.YtabogkonklplcaaGreatDoor
