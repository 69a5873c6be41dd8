import Derived.Test.YtabogkonklplcaaGreatDoorK27
import Derived.Test.YtabogkonklplcaaGreatDoorK14
import Derived.Test.YtabogkonklplcaaGreatDoorK18
import Derived.Test.YtabogkonklplcaaGreatDoorK19
import Derived.Deep.RegionHeld3

namespace Go.Proofs.YtabogkonklplcaaGreatDoor
open Go.RowKit
set_option linter.unusedSimpArgs false
set_option linter.unusedVariables false
section
variable {s : List Nd} {h : Nat → Nat} {B : Nat} {F : Nat → Prop} {bf bn cap : Nat} {pn : List PN} {w : World}
set_option maxRecDepth 20000 in
set_option maxHeartbeats 1000000 in
theorem tjoint_in (wf : WF s) (u : Up s h B) (hD : PForAt w F bf bn cap pn s) (a b c d : Nat) (ha : a < s.length) (hc : c ∈ allF s (B + 1) a) :
    Calls Tryz.prog 162 #[ptr bf, spV ⟨a, b, c, d⟩] w fun e w' => e = .returned (.agg #[.int .i64 (a : Int), .int .i64 (b : Int)]) ∧ Below w.heap.size w w' := by
  have hH := u.le a
  have CH := hid (fun W (hB : Below w.heap.size w W) => holds_any wf u (hD.below hB) (B + 1) a c ha (by omega))
  rw [decide_eq_true hc] at CH
  have HB0 : Hid (Below w.heap.size w ((w.alloc (.cells #[.int .i64 (a : Int), .int .i64 (b : Int), .int .i64 (c : Int), .int .i64 (d : Int)] 79)).alloc (.cells #[.int .i64 0, .int .i64 0] 37))) := ((Below.refl _ w).alloc (Nat.le_refl _) _).alloc (by simp) _
  have HS0 := hid ((Below.heap_alloc (w.alloc (.cells #[.int .i64 (a : Int), .int .i64 (b : Int), .int .i64 (c : Int), .int .i64 (d : Int)] 79)) (.cells #[.int .i64 0, .int .i64 0] 37) w.heap.size (by simp)).trans (heap_alloc_new w (.cells #[.int .i64 (a : Int), .int .i64 (b : Int), .int .i64 (c : Int), .int .i64 (d : Int)] 79)))
  have HR0 : Hid (((w.alloc (.cells #[.int .i64 (a : Int), .int .i64 (b : Int), .int .i64 (c : Int), .int .i64 (d : Int)] 79)).alloc (.cells #[.int .i64 0, .int .i64 0] 37)).heap[w.heap.size + 1]? = some (.cells #[.int .i64 0, .int .i64 0] 37 (0, 0))) := by
    have := heap_alloc_new (w.alloc (.cells #[.int .i64 (a : Int), .int .i64 (b : Int), .int .i64 (c : Int), .int .i64 (d : Int)] 79)) (.cells #[.int .i64 0, .int .i64 0] 37)
    rwa [World.size_alloc] at this
  clear hD wf u hc
  go_enter Tryz.func162, Tryz.ntmps162
  go_wp2_with (
    go_at_call 173
    refine (CH.out _ HB0.out).mono ?_
    rintro e w1 ⟨rfl, hb1⟩
    have hs := (hb1.block _ (heap_lt HS0.out)).trans HS0.out
    have c0 := cell_of_heap hs 0
    have c1 := cell_of_heap hs 1
    have c2 := cell_of_heap hs 2
    have c3 := cell_of_heap hs 3
    have hr := (hb1.block _ (heap_lt HR0.out)).trans HR0.out
    have r0 := cell_of_heap hr 0
    have r1 := cell_of_heap hr 1
    have rf0 := frozen_of_heap hr 0
    have rf1 := frozen_of_heap hr 1
    have hrl := heap_lt hr
    have HB1 := hid (HB0.out.trans (hb1.mono HB0.out.size))
    clear hb1 hs hr)
  refine bodyPost_ret (v := .agg #[.int .i64 (a : Int), .int .i64 (b : Int)]) (by simp [results, Tryz.results162, go_sem, *]) rfl ?_
  refine ⟨rfl, ?_⟩
  have hB := HB1.out
  have hz := hB.size
  go_grown
def JoinInv (s : List Nd) (a q : Nat) (w : World) (t : Value) (wr : World) : Prop :=
  ∃ (r n : Nat), r ≤ q ∧ climb s r a = (n : Int) ∧ n < s.length ∧ t = .int .i64 (n : Int) ∧ Below w.heap.size w wr
set_option maxRecDepth 20000 in
set_option maxHeartbeats 2000000 in
theorem tjoint_up (wf : WF s) (u : Up s h B) (hD : PForAt w F bf bn cap pn s) (a b c d : Nat) (ha : a < s.length) (hca : c ∉ allF s (B + 1) a) {q n p m : Nat} {x y : Nd} (hJ : JointAt s (B + 1) a c q n p m x y) :
    Calls Tryz.prog 162 #[ptr bf, spV ⟨a, b, c, d⟩] w fun e w' => e = .returned (.agg #[.int .i64 (p : Int), .int .i64 ((m : Int) + 1)]) ∧ Below w.heap.size w w' := by
  have hcap := wf.cap
  have CH := hid (fun (k : Nat) (hk : k < s.length) W (hB : Below w.heap.size w W) => holds_any wf u (hD.below hB) (B + 1) k c hk (by have := u.le k; omega))
  have CH0 := hid (fun W (hB : Below w.heap.size w W) => CH.out a ha W hB)
  rw [decide_eq_false hca] at CH0
  have hyl := kids_le wf hJ.hy
  have hml := (List.getElem?_eq_some_iff.1 hJ.hm).1
  have CA := hid (fun W (hB : Below w.heap.size w W) => tahead_at (hD.below hB) n p m x y hJ.hx hJ.hp hJ.hy hJ.hm hJ.hno (by unfold lots; omega) (by unfold lots; omega))
  have hplt : p < s.length := (List.getElem?_eq_some_iff.1 hJ.hy).1
  have HB0 : Hid (Below w.heap.size w ((w.alloc (.cells #[.int .i64 (a : Int), .int .i64 (b : Int), .int .i64 (c : Int), .int .i64 (d : Int)] 79)).alloc (.cells #[.int .i64 0, .int .i64 0] 37))) := ((Below.refl _ w).alloc (Nat.le_refl _) _).alloc (by simp) _
  have HS0 := hid ((Below.heap_alloc (w.alloc (.cells #[.int .i64 (a : Int), .int .i64 (b : Int), .int .i64 (c : Int), .int .i64 (d : Int)] 79)) (.cells #[.int .i64 0, .int .i64 0] 37) w.heap.size (by simp)).trans (heap_alloc_new w (.cells #[.int .i64 (a : Int), .int .i64 (b : Int), .int .i64 (c : Int), .int .i64 (d : Int)] 79)))
  have HR0 : Hid (((w.alloc (.cells #[.int .i64 (a : Int), .int .i64 (b : Int), .int .i64 (c : Int), .int .i64 (d : Int)] 79)).alloc (.cells #[.int .i64 0, .int .i64 0] 37)).heap[w.heap.size + 1]? = some (.cells #[.int .i64 0, .int .i64 0] 37 (0, 0))) := by
    have := heap_alloc_new (w.alloc (.cells #[.int .i64 (a : Int), .int .i64 (b : Int), .int .i64 (c : Int), .int .i64 (d : Int)] 79)) (.cells #[.int .i64 0, .int .i64 0] 37)
    rwa [World.size_alloc] at this
  have HD := hid hD
  have HJ := hid hJ
  have HU := hid u
  clear hD hca hJ u
  go_enter Tryz.func162, Tryz.ntmps162
  go_wp2_with (
    go_at_call 173
    refine (CH0.out _ HB0.out).mono ?_
    clear CH0
    rintro e w1 ⟨rfl, hb1⟩
    have hs := (hb1.block _ (heap_lt HS0.out)).trans HS0.out
    have c0 := cell_of_heap hs 0
    have c2 := cell_of_heap hs 2
    have HS1 := hid hs
    have HR1 := hid ((hb1.block _ (heap_lt HR0.out)).trans HR0.out)
    have HB1 := hid (HB0.out.trans (hb1.mono HB0.out.size))
    clear hb1 hs)
  go_loopw [5] (JoinInv s a q w1) (fun t _ => upMeas h B (intOf t))
  case atStart => exact ⟨0, a, Nat.zero_le _, rfl, ha, rfl, Below.refl _ _⟩
  case round =>
    obtain ⟨r, k, hr, hk, hkl, rfl, hbr⟩ := hrel
    have hbw : Below w.heap.size w wr := HB1.out.trans (hbr.mono HB1.out.size)
    have hs := (hbr.block _ (heap_lt HS1.out)).trans HS1.out
    have c2 := cell_of_heap hs 2
    obtain ⟨z, hz⟩ : ∃ z, s[k]? = some z := ⟨_, List.getElem?_eq_getElem hkl⟩
    have hDr := HD.out.below hbw
    have n0 := hDr.nodesCell
    have hnl := hDr.lt
    obtain ⟨rr, hrr, ho, d0, d1, d2, d3⟩ := hDr.look hz
    have hkI : (k : Int) < (s.length : Int) := by omega
    by_cases hrq : r < q
    · obtain ⟨k2, hk2, hk2l, hk2n⟩ := HJ.out.up (r + 1) hrq
      have hzp : z.p = (k2 : Int) := by
        have := climb_step hk
        rw [hk2] at this
        simp only [parOf, hz] at this
        exact this.symm
      rw [hzp] at d0
      have C1 := hid (fun W hB => CH.out k2 hk2l W hB)
      rw [decide_eq_false hk2n] at C1
      have hms := upMeas_lt HU.out hz
      rw [hzp] at hms
      have H := hid (And.intro hbw (And.intro hbr (And.intro hk2 hms)))
      have HDR := hid hDr
      have HZ := hid hz
      have KEEP := hid (fun W (hB : Below wr.heap.size wr W) => And.intro ((hB.cell (p := ⟨bf, 0, none⟩) hnl.1).trans n0) (And.intro ((hB.cell (p := ⟨bn, k * 4, none⟩) hnl.2).trans d0) ((hB.cell (p := ⟨w.heap.size, 2, none⟩) (heap_lt hs)).trans c2)))
      clear hDr d1 d2 d3 hrr ho hz hzp hk hk2 hk2n hbw hbr hs hms
      go_wp2
      go_region_held3 (fun w' => w'.cell? ⟨bf, 0, none⟩ = some (.slice (some ⟨bn, 0, none⟩) s.length cap) ∧ w'.cell? ⟨bn, k * 4, none⟩ = some (.int .i64 (k2 : Int)) ∧ w'.cell? ⟨w.heap.size, 2, none⟩ = some (.int .i64 (c : Int))) (first | exact KP2.out | go_keep) ((
        go_at_call 173
        refine (C1.out _ ?_).mono ?_
        · first | exact below_drewN H.out.1 _ | exact H.out.1.drew | exact H.out.1
        clear C1
        rintro e w2 ⟨rfl, hb2⟩
        have hB2 : Below wr.heap.size wr w2 := ⟨hb2.os, hb2.tape, hb2.output, hb2.size, hb2.block⟩
        have KP2 := hid (KEEP.out w2 hB2)
        have HB2 := hid hB2
        clear hb2 hB2))
      all_goals
        obtain ⟨m0, m1, m2⟩ := KP2.out
        go_wp2
        go_roundw
        case rel =>
          obtain ⟨hbw, hbr, hk2, hms⟩ := H.out
          exact ⟨r + 1, k2, by omega, hk2, hk2l, rfl, hbr.trans (HB2.out.mono hbr.size)⟩
        case measure => exact H.out.2.2.2
    · obtain rfl : r = q := by omega
      have e1 := HJ.out.last
      rw [hk] at e1
      obtain rfl : k = n := by omega
      have hzx : z = x := by have := HJ.out.hx; rw [hz] at this; cases this; rfl
      subst hzx
      have hzp := HJ.out.hp
      rw [hzp] at d0
      have C1 := hid (fun W hB => CH.out p hplt W hB)
      rw [decide_eq_true HJ.out.hold] at C1
      have KEEP := hid (fun W (hB : Below wr.heap.size wr W) => And.intro ((hB.cell (p := ⟨bf, 0, none⟩) hnl.1).trans n0) (And.intro ((hB.cell (p := ⟨bn, k * 4, none⟩) hnl.2).trans d0) ((hB.cell (p := ⟨w.heap.size, 2, none⟩) (heap_lt hs)).trans c2)))
      have H := hid (And.intro hbw hbr)
      have hR2 := hid ((hbr.block _ (heap_lt HR1.out)).trans HR1.out)
      clear hDr d1 d2 d3 hrr ho hz hzp hk hbw hbr hs e1
      go_wp2
      go_region_held3 (fun w' => w'.cell? ⟨bf, 0, none⟩ = some (.slice (some ⟨bn, 0, none⟩) s.length cap) ∧ w'.cell? ⟨bn, k * 4, none⟩ = some (.int .i64 (p : Int)) ∧ w'.cell? ⟨w.heap.size, 2, none⟩ = some (.int .i64 (c : Int))) (first | exact KP2.out | go_keep) ((
        go_at_call 173
        refine (C1.out _ ?_).mono ?_
        · first | exact below_drewN H.out.1 _ | exact H.out.1.drew | exact H.out.1
        clear C1
        rintro e w2 ⟨rfl, hb2⟩
        have hB2 : Below wr.heap.size wr w2 := ⟨hb2.os, hb2.tape, hb2.output, hb2.size, hb2.block⟩
        have KP2 := hid (KEEP.out w2 hB2)
        have HB2 := hid hB2
        clear hb2 hB2))
      all_goals
        obtain ⟨m0, m1, m2⟩ := KP2.out
        have HW2 := hid (H.out.1.trans (HB2.out.mono H.out.1.size))
        go_wp2_with (
          go_at_call 149
          refine (CA.out _ ?_).mono ?_
          · first | exact below_drewN HW2.out _ | exact HW2.out.drew | exact HW2.out
          clear CA
          rintro e w3 ⟨rfl, hb3⟩
          have hr3 := (hb3.block _ (Nat.lt_of_lt_of_le (heap_lt hR2.out) HB2.out.size)).trans ((HB2.out.block _ (heap_lt hR2.out)).trans hR2.out)
          have r0 := cell_of_heap hr3 0
          have r1 := cell_of_heap hr3 1
          have rf0 := frozen_of_heap hr3 0
          have rf1 := frozen_of_heap hr3 1
          have hrl := heap_lt hr3
          have HB3 := hid (show Below w.heap.size w w3 from HW2.out.trans (hb3.mono HW2.out.size))
          clear hb3 hr3)
        refine bodyPost_ret (v := .agg #[.int .i64 (p : Int), .int .i64 ((m : Int) + 1)]) (by simp [results, Tryz.results162, go_sem, *]) rfl ?_
        refine ⟨rfl, ?_⟩
        have hB := HB3.out
        have hz := hB.size
        go_grown
end
end Go.Proofs.YtabogkonklplcaaGreatDoor
