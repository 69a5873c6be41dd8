import Derived.Test.YtabogkonklplcaaGreatDoorL19
import Derived.Test.YtabogkonklplcaaGreatDoorL20
import Derived.Test.YtabogkonklplcaaGreatDoorL13

namespace Go.Proofs.YtabogkonklplcaaGreatDoor
open Go.RowKit Go.Lib
set_option linter.unusedSimpArgs false
set_option linter.unusedVariables false
section
variable {w : World} {F : Nat → Prop} {bf bn cap : Nat} {pn : List PN} {s : List Nd}
set_option maxHeartbeats 400000 in
theorem place_no (hD : PForAt w F bf bn cap pn s) (n k : Int) (h : isB s n = false) : Calls Tryz.prog 98 #[ptr bf, .agg #[.int .i64 n, .int .i64 k]] w fun e w' => e = .returned (refusalV n 1) ∧ Below w.heap.size w w' := by
  have C := hid (fun w1 (hb : Below w.heap.size w w1) => find_no (hD.below hb) n h)
  clear hD h
  go_enter Tryz.func98, Tryz.ntmps98
  go_wp2_with (go_at_call 87; refine (C.out _ (by first | exact Below.refl _ _ | go_grown)).mono ?_; rintro e w1 ⟨rfl, rfl⟩)
  go_ret
  exact ⟨rfl, by go_grown⟩
set_option maxHeartbeats 1000000 in
theorem place_text (hD : PForAt w F bf bn cap pn s) (n : Nat) (k : Int) (x : Nd) (hx : s[n]? = some x) (ht : x.t = true) (hch : ∀ d ∈ x.cs, IsCh d) (hl : x.cs.length < lots) (ho : k < 0 ∨ (x.cs.length : Int) < k) :
    Calls Tryz.prog 98 #[ptr bf, .agg #[.int .i64 n, .int .i64 k]] w fun e w' => e = .returned (.iface 145 (.agg #[.int .i64 n, outV k])) ∧ Below w.heap.size w w' := by
  have hi : n < s.length := (List.getElem?_eq_some_iff.1 hx).1
  have hP : Below w.heap.size w (w.alloc (.cells #[.int .i64 n, .int .i64 k] 37)) := (Below.refl _ w).alloc (Nat.le_refl _) _
  have C := hid (find_yes (hD.below hP) n (isB_of (by omega)))
  have C2 := hid (fun w1 => find_out x.cs hch hl k ho w1)
  have h0 := hD.nodesCell
  have hlt := hD.lt
  obtain ⟨r, hr, ho', c0, c1, c2, c3⟩ := hD.look hx
  rw [ht] at c1
  clear hD c0 c2 hr ho' hx hch
  go_enter Tryz.func98, Tryz.ntmps98
  go_wp2_with (go_at_call 87; refine C.out.mono ?_; rintro e w1 ⟨rfl, hw1⟩; replace hw1 := hw1.symm; subst hw1)
  go_region
  go_wp2
  go_region_held3 (fun w' => w'.cell? ⟨bf, 0, none⟩ = some (.slice (some ⟨bn, 0, none⟩) s.length cap) ∧ w'.cell? ⟨w.heap.size, 0, none⟩ = some (.int .i64 n) ∧ w'.cell? ⟨w.heap.size, 1, none⟩ = some (.int .i64 k) ∧ w'.cell? ⟨bn, n * 4 + 3, none⟩ = some (.string (catB x.cs))) (first | exact KEEP.out | go_keep) ((
     go_at_call 102; refine (C2.out _).mono ?_; rintro e w2 ⟨rfl, hb2⟩
     have hq := (hb2.block w.heap.size (by simp)).trans (heap_alloc_new w (.cells #[.int .i64 n, .int .i64 k] 37))
     have q0 : w2.cell? ⟨w.heap.size, 0, none⟩ = some (.int .i64 n) := cell_of_heap hq 0
     have q1 : w2.cell? ⟨w.heap.size, 1, none⟩ = some (.int .i64 k) := cell_of_heap hq 1
     have hB2 : Below w.heap.size w w2 := hP.trans ⟨hb2.os, hb2.tape, hb2.output, Nat.le_trans (by simp) hb2.size, fun k hk => hb2.block k (by simp at hk ⊢; omega)⟩
     have KEEP := hid (And.intro ((hB2.cell (p := ⟨bf, 0, none⟩) hlt.1).trans h0) (And.intro q0 (And.intro q1 ((hB2.cell (p := ⟨bn, n * 4 + 3, none⟩) hlt.2).trans c3))))
     clear hq hb2))
  go_wp2
  go_ret
  exact ⟨rfl, hB2⟩
set_option maxHeartbeats 1000000 in
theorem place_elem (hD : PForAt w F bf bn cap pn s) (n : Nat) (k : Int) (x : Nd) (hx : s[n]? = some x) (ht : x.t = false) (ho : k < 0 ∨ (x.ks.length : Int) < k) :
    Calls Tryz.prog 98 #[ptr bf, .agg #[.int .i64 n, .int .i64 k]] w fun e w' => e = .returned (refusalV n 3) ∧ Below w.heap.size w w' := by
  have hi : n < s.length := (List.getElem?_eq_some_iff.1 hx).1
  have hP : Below w.heap.size w (w.alloc (.cells #[.int .i64 n, .int .i64 k] 37)) := (Below.refl _ w).alloc (Nat.le_refl _) _
  have C := hid (find_yes (hD.below hP) n (isB_of (by omega)))
  have h0 := hD.nodesCell
  have hlt := hD.lt
  obtain ⟨r, hr, ho', c0, c1, c2, c3⟩ := hD.look hx
  rw [ht] at c1
  obtain ⟨ka, kc, hkv⟩ := slice_shape ho'.kids
  rw [hkv] at c2
  clear hD c0 c3 hr ho' hx hkv
  by_cases hneg : k < 0
  · have hd : decide (k < 0) = true := decide_eq_true hneg
    go_enter Tryz.func98, Tryz.ntmps98
    go_wp2_with (go_at_call 87; refine C.out.mono ?_; rintro e w1 ⟨rfl, hw1⟩; replace hw1 := hw1.symm; subst hw1)
    go_region
    go_wp2
    go_region
    go_wp2
    go_ret
    exact ⟨rfl, by go_grown⟩
  · have hd : decide (k < 0) = false := decide_eq_false hneg
    have hd2 : decide ((x.ks.length : Int) < k) = true := decide_eq_true (by omega)
    go_enter Tryz.func98, Tryz.ntmps98
    go_wp2_with (go_at_call 87; refine C.out.mono ?_; rintro e w1 ⟨rfl, hw1⟩; replace hw1 := hw1.symm; subst hw1)
    go_region
    go_wp2
    go_region
    go_wp2
    go_ret
    exact ⟨rfl, by go_grown⟩
set_option maxHeartbeats 1000000 in
theorem place_ok (hD : PForAt w F bf bn cap pn s) (n k : Nat) (x : Nd) (hx : s[n]? = some x) (hch : ∀ d ∈ x.cs, IsCh d) (hl : x.cs.length < lots) (ho : k ≤ sizeN x) :
    Calls Tryz.prog 98 #[ptr bf, .agg #[.int .i64 n, .int .i64 (k : Int)]] w fun e w' => e = .returned .nilIface ∧ Below w.heap.size w w' := by
  have hi : n < s.length := (List.getElem?_eq_some_iff.1 hx).1
  have hP : Below w.heap.size w (w.alloc (.cells #[.int .i64 n, .int .i64 (k : Int)] 37)) := (Below.refl _ w).alloc (Nat.le_refl _) _
  have C := hid (find_yes (hD.below hP) n (isB_of (by omega)))
  have h0 := hD.nodesCell
  have hlt := hD.lt
  obtain ⟨r, hr, ho', c0, c1, c2, c3⟩ := hD.look hx
  obtain ⟨ka, kc, hkv⟩ := slice_shape ho'.kids
  rw [hkv] at c2
  cases ht : x.t with
  | true =>
    rw [ht] at c1
    rw [sizeN_text ht] at ho
    have C2 := hid (fun w1 => find_at x.cs hch hl k ho w1)
    clear hD c0 c2 hr ho' hx hch hkv
    go_enter Tryz.func98, Tryz.ntmps98
    go_wp2_with (go_at_call 87; refine C.out.mono ?_; rintro e w1 ⟨rfl, hw1⟩; replace hw1 := hw1.symm; subst hw1)
    go_region
    go_wp2
    go_region_held3 (fun w' => w'.cell? ⟨bf, 0, none⟩ = some (.slice (some ⟨bn, 0, none⟩) s.length cap) ∧ w'.cell? ⟨w.heap.size, 0, none⟩ = some (.int .i64 n) ∧ w'.cell? ⟨w.heap.size, 1, none⟩ = some (.int .i64 k) ∧ w'.cell? ⟨bn, n * 4 + 3, none⟩ = some (.string (catB x.cs))) (first | exact KEEP.out | go_keep) ((
       go_at_call 102; refine (C2.out _).mono ?_; rintro e w2 ⟨rfl, hb2⟩
       have hq := (hb2.block w.heap.size (by simp)).trans (heap_alloc_new w (.cells #[.int .i64 n, .int .i64 k] 37))
       have q0 : w2.cell? ⟨w.heap.size, 0, none⟩ = some (.int .i64 n) := cell_of_heap hq 0
       have q1 : w2.cell? ⟨w.heap.size, 1, none⟩ = some (.int .i64 k) := cell_of_heap hq 1
       have hB2 : Below w.heap.size w w2 := hP.trans ⟨hb2.os, hb2.tape, hb2.output, Nat.le_trans (by simp) hb2.size, fun k hk => hb2.block k (by simp at hk ⊢; omega)⟩
       have KEEP := hid (And.intro ((hB2.cell (p := ⟨bf, 0, none⟩) hlt.1).trans h0) (And.intro q0 (And.intro q1 ((hB2.cell (p := ⟨bn, n * 4 + 3, none⟩) hlt.2).trans c3))))
       clear hq hb2))
    go_wp2
    go_ret
    exact ⟨rfl, hB2⟩
  | false =>
    rw [ht] at c1
    rw [sizeN_elem ht] at ho
    have hd : decide ((k : Int) < 0) = false := decide_eq_false (by omega)
    have hd2 : decide ((x.ks.length : Int) < (k : Int)) = false := decide_eq_false (by omega)
    clear hD c0 c3 hr ho' hx hch hkv
    go_enter Tryz.func98, Tryz.ntmps98
    go_wp2_with (go_at_call 87; refine C.out.mono ?_; rintro e w1 ⟨rfl, hw1⟩; replace hw1 := hw1.symm; subst hw1)
    go_region
    go_wp2
    go_region
    go_wp2
    go_ret
    exact ⟨rfl, by go_grown⟩
set_option maxRecDepth 20000 in
set_option maxHeartbeats 1000000 in
theorem ttop_any (wf : WF s) (hD : PForAt w F bf bn cap pn s) (n : Nat) (hn : n < s.length) :
    Calls Tryz.prog 99 #[ptr bf, .int .i64 n] w (TopPost s n w) := by
  obtain ⟨h, B, u⟩ := wf.up
  have h0 := hD.nodesCell
  have HD := hid hD
  have HW := hid wf
  have HU := hid u
  clear hD wf u
  go_enter Tryz.func99, Tryz.ntmps99
  go_wp2
  go_loopw [1] (fun a wr => TopInv s n w a wr) (fun a _ => upMeas h B (intOf a))
  case atStart => exact ⟨rfl, n, 0, rfl, hn, rfl⟩
  case round =>
    obtain ⟨rfl, c, m, rfl, hc, hm⟩ := hrel
    obtain ⟨x, hx⟩ : ∃ x, s[c]? = some x := ⟨_, List.getElem?_eq_getElem hc⟩
    obtain ⟨r, hr, ho, c0, c1, c2, c3⟩ := HD.out.look hx
    have HM := hid hm
    have HX := hid hx
    clear c1 c2 c3 hr ho hm hx
    by_cases hp : 0 ≤ x.p
    · have hup := upMeas_lt HU.out HX.out
      have hpar := (HU.out.par c x HX.out hp).1
      have HUP := hid hup
      have hp1 : (x.p == -1) = false := by simp; omega
      clear hup
      go_wp2
      go_roundw
      case rel =>
        obtain ⟨q, hq⟩ := Int.eq_ofNat_of_zero_le hp
        refine ⟨rfl, q, m + 1, by rw [hq], by omega, ?_⟩
        rw [climb_step HM.out]
        simp [parOf, HX.out, hq]
      case measure => exact HUP.out
    · have hp1 : x.p = -1 := by
        rcases HW.out.par c x HX.out with e | ⟨q, y, e, _⟩
        · exact e
        · omega
      rw [hp1] at c0
      go_wp2
      go_ret
      exact ⟨⟨c, rfl, ⟨m, HM.out⟩, x, HX.out, hp1⟩, rfl⟩
end
end Go.Proofs.YtabogkonklplcaaGreatDoor
