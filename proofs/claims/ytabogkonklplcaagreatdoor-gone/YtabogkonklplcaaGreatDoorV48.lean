import Derived.Test.YtabogkonklplcaaGreatDoorV31
import Derived.Test.YtabogkonklplcaaGreatDoorV17
import Derived.Test.YtabogkonklplcaaGreatDoorV19
import Derived.Test.YtabogkonklplcaaGreatDoorV20
import Derived.Deep.RegionHeld3
import Derived.Test.YtabogkonklplcaaGreatDoorV35
import Derived.Test.YtabogkonklplcaaGreatDoorV23
import Derived.Test.YtabogkonklplcaaGreatDoorV47
import Derived.Test.YtabogkonklplcaaGreatDoorV11
import Derived.Test.YtabogkonklplcaaGreatDoorV12
import Derived.Test.YtabogkonklplcaaGreatDoorV37

namespace Go.Proofs.YtabogkonklplcaaGreatDoor
open Go.RowKit
set_option linter.unusedSimpArgs false
set_option linter.unusedVariables false
section
variable {s : List Nd} {h : Nat → Nat} {B : Nat} {F : Nat → Prop} {bf bn cap : Nat} {pn : List PN} {w : World}
set_option maxRecDepth 20000 in
set_option maxHeartbeats 1000000 in
theorem tjoint_in (wf : WF s) (u : Up s h B) (hD : PForAt w F bf bn cap pn s) (a b c d : Nat) (ha : a < s.length) (hc : c ∈ allF s (B + 1) a) :
    Calls Tryz.prog 162 #[ptr bf, spV ⟨a, b, c, d⟩] w fun e w' => e = .returned (.agg #[.int .i64 (a : Int), .int .i64 (b : Int)]) ∧ Below w.heap.size w w' := by
  have hH := u.le a
  have CH := hid (fun W (hB : Below w.heap.size w W) => holds_any wf u (hD.below hB) (B + 1) a c ha (by omega))
  rw [decide_eq_true hc] at CH
  have HB0 : Hid (Below w.heap.size w ((w.alloc (.cells #[.int .i64 (a : Int), .int .i64 (b : Int), .int .i64 (c : Int), .int .i64 (d : Int)] 79)).alloc (.cells #[.int .i64 0, .int .i64 0] 37))) := ((Below.refl _ w).alloc (Nat.le_refl _) _).alloc (by simp) _
  have HS0 := hid ((Below.heap_alloc (w.alloc (.cells #[.int .i64 (a : Int), .int .i64 (b : Int), .int .i64 (c : Int), .int .i64 (d : Int)] 79)) (.cells #[.int .i64 0, .int .i64 0] 37) w.heap.size (by simp)).trans (heap_alloc_new w (.cells #[.int .i64 (a : Int), .int .i64 (b : Int), .int .i64 (c : Int), .int .i64 (d : Int)] 79)))
  have HR0 : Hid (((w.alloc (.cells #[.int .i64 (a : Int), .int .i64 (b : Int), .int .i64 (c : Int), .int .i64 (d : Int)] 79)).alloc (.cells #[.int .i64 0, .int .i64 0] 37)).heap[w.heap.size + 1]? = some (.cells #[.int .i64 0, .int .i64 0] 37 (0, 0))) := by
    have := heap_alloc_new (w.alloc (.cells #[.int .i64 (a : Int), .int .i64 (b : Int), .int .i64 (c : Int), .int .i64 (d : Int)] 79)) (.cells #[.int .i64 0, .int .i64 0] 37)
    rwa [World.size_alloc] at this
  clear hD wf u hc
  go_enter Tryz.func162, Tryz.ntmps162
  go_wp2_with (
    go_at_call 173
    refine (CH.out _ HB0.out).mono ?_
    rintro e w1 ⟨rfl, hb1⟩
    have hs := (hb1.block _ (heap_lt HS0.out)).trans HS0.out
    have c0 := cell_of_heap hs 0
    have c1 := cell_of_heap hs 1
    have c2 := cell_of_heap hs 2
    have c3 := cell_of_heap hs 3
    have hr := (hb1.block _ (heap_lt HR0.out)).trans HR0.out
    have r0 := cell_of_heap hr 0
    have r1 := cell_of_heap hr 1
    have rf0 := frozen_of_heap hr 0
    have rf1 := frozen_of_heap hr 1
    have hrl := heap_lt hr
    have HB1 := hid (HB0.out.trans (hb1.mono HB0.out.size))
    clear hb1 hs hr)
  refine bodyPost_ret (v := .agg #[.int .i64 (a : Int), .int .i64 (b : Int)]) (by simp [results, Tryz.results162, go_sem, *]) rfl ?_
  refine ⟨rfl, ?_⟩
  have hB := HB1.out
  have hz := hB.size
  go_grown
def JoinInv (s : List Nd) (a q : Nat) (w : World) (t : Value) (wr : World) : Prop :=
  ∃ (r n : Nat), r ≤ q ∧ climb s r a = (n : Int) ∧ n < s.length ∧ t = .int .i64 (n : Int) ∧ Below w.heap.size w wr
set_option maxRecDepth 20000 in
set_option maxHeartbeats 2000000 in
theorem tjoint_up (wf : WF s) (u : Up s h B) (hD : PForAt w F bf bn cap pn s) (a b c d : Nat) (ha : a < s.length) (hca : c ∉ allF s (B + 1) a) {q n p m : Nat} {x y : Nd} (hJ : JointAt s (B + 1) a c q n p m x y) :
    Calls Tryz.prog 162 #[ptr bf, spV ⟨a, b, c, d⟩] w fun e w' => e = .returned (.agg #[.int .i64 (p : Int), .int .i64 ((m : Int) + 1)]) ∧ Below w.heap.size w w' := by
  have hcap := wf.cap
  have CH := hid (fun (k : Nat) (hk : k < s.length) W (hB : Below w.heap.size w W) => holds_any wf u (hD.below hB) (B + 1) k c hk (by have := u.le k; omega))
  have CH0 := hid (fun W (hB : Below w.heap.size w W) => CH.out a ha W hB)
  rw [decide_eq_false hca] at CH0
  have hyl := kids_le wf hJ.hy
  have hml := (List.getElem?_eq_some_iff.1 hJ.hm).1
  have CA := hid (fun W (hB : Below w.heap.size w W) => tahead_at (hD.below hB) n p m x y hJ.hx hJ.hp hJ.hy hJ.hm hJ.hno (by unfold lots; omega) (by unfold lots; omega))
  have hplt : p < s.length := (List.getElem?_eq_some_iff.1 hJ.hy).1
  have HB0 : Hid (Below w.heap.size w ((w.alloc (.cells #[.int .i64 (a : Int), .int .i64 (b : Int), .int .i64 (c : Int), .int .i64 (d : Int)] 79)).alloc (.cells #[.int .i64 0, .int .i64 0] 37))) := ((Below.refl _ w).alloc (Nat.le_refl _) _).alloc (by simp) _
  have HS0 := hid ((Below.heap_alloc (w.alloc (.cells #[.int .i64 (a : Int), .int .i64 (b : Int), .int .i64 (c : Int), .int .i64 (d : Int)] 79)) (.cells #[.int .i64 0, .int .i64 0] 37) w.heap.size (by simp)).trans (heap_alloc_new w (.cells #[.int .i64 (a : Int), .int .i64 (b : Int), .int .i64 (c : Int), .int .i64 (d : Int)] 79)))
  have HR0 : Hid (((w.alloc (.cells #[.int .i64 (a : Int), .int .i64 (b : Int), .int .i64 (c : Int), .int .i64 (d : Int)] 79)).alloc (.cells #[.int .i64 0, .int .i64 0] 37)).heap[w.heap.size + 1]? = some (.cells #[.int .i64 0, .int .i64 0] 37 (0, 0))) := by
    have := heap_alloc_new (w.alloc (.cells #[.int .i64 (a : Int), .int .i64 (b : Int), .int .i64 (c : Int), .int .i64 (d : Int)] 79)) (.cells #[.int .i64 0, .int .i64 0] 37)
    rwa [World.size_alloc] at this
  have HD := hid hD
  have HJ := hid hJ
  have HU := hid u
  clear hD hca hJ u
  go_enter Tryz.func162, Tryz.ntmps162
  go_wp2_with (
    go_at_call 173
    refine (CH0.out _ HB0.out).mono ?_
    clear CH0
    rintro e w1 ⟨rfl, hb1⟩
    have hs := (hb1.block _ (heap_lt HS0.out)).trans HS0.out
    have c0 := cell_of_heap hs 0
    have c2 := cell_of_heap hs 2
    have HS1 := hid hs
    have HR1 := hid ((hb1.block _ (heap_lt HR0.out)).trans HR0.out)
    have HB1 := hid (HB0.out.trans (hb1.mono HB0.out.size))
    clear hb1 hs)
  go_loopw [5] (JoinInv s a q w1) (fun t _ => upMeas h B (intOf t))
  case atStart => exact ⟨0, a, Nat.zero_le _, rfl, ha, rfl, Below.refl _ _⟩
  case round =>
    obtain ⟨r, k, hr, hk, hkl, rfl, hbr⟩ := hrel
    have hbw : Below w.heap.size w wr := HB1.out.trans (hbr.mono HB1.out.size)
    have hs := (hbr.block _ (heap_lt HS1.out)).trans HS1.out
    have c2 := cell_of_heap hs 2
    obtain ⟨z, hz⟩ : ∃ z, s[k]? = some z := ⟨_, List.getElem?_eq_getElem hkl⟩
    have hDr := HD.out.below hbw
    have n0 := hDr.nodesCell
    have hnl := hDr.lt
    obtain ⟨rr, hrr, ho, d0, d1, d2, d3⟩ := hDr.look hz
    have hkI : (k : Int) < (s.length : Int) := by omega
    by_cases hrq : r < q
    · obtain ⟨k2, hk2, hk2l, hk2n⟩ := HJ.out.up (r + 1) hrq
      have hzp : z.p = (k2 : Int) := by
        have := climb_step hk
        rw [hk2] at this
        simp only [parOf, hz] at this
        exact this.symm
      rw [hzp] at d0
      have C1 := hid (fun W hB => CH.out k2 hk2l W hB)
      rw [decide_eq_false hk2n] at C1
      have hms := upMeas_lt HU.out hz
      rw [hzp] at hms
      have H := hid (And.intro hbw (And.intro hbr (And.intro hk2 hms)))
      have HDR := hid hDr
      have HZ := hid hz
      have KEEP := hid (fun W (hB : Below wr.heap.size wr W) => And.intro ((hB.cell (p := ⟨bf, 0, none⟩) hnl.1).trans n0) (And.intro ((hB.cell (p := ⟨bn, k * 4, none⟩) hnl.2).trans d0) ((hB.cell (p := ⟨w.heap.size, 2, none⟩) (heap_lt hs)).trans c2)))
      clear hDr d1 d2 d3 hrr ho hz hzp hk hk2 hk2n hbw hbr hs hms
      go_wp2
      go_region_held3 (fun w' => w'.cell? ⟨bf, 0, none⟩ = some (.slice (some ⟨bn, 0, none⟩) s.length cap) ∧ w'.cell? ⟨bn, k * 4, none⟩ = some (.int .i64 (k2 : Int)) ∧ w'.cell? ⟨w.heap.size, 2, none⟩ = some (.int .i64 (c : Int))) (first | exact KP2.out | go_keep) ((
        go_at_call 173
        refine (C1.out _ ?_).mono ?_
        · first | exact below_drewN H.out.1 _ | exact H.out.1.drew | exact H.out.1
        clear C1
        rintro e w2 ⟨rfl, hb2⟩
        have hB2 : Below wr.heap.size wr w2 := ⟨hb2.os, hb2.tape, hb2.output, hb2.size, hb2.block⟩
        have KP2 := hid (KEEP.out w2 hB2)
        have HB2 := hid hB2
        clear hb2 hB2))
      all_goals
        obtain ⟨m0, m1, m2⟩ := KP2.out
        go_wp2
        go_roundw
        case rel =>
          obtain ⟨hbw, hbr, hk2, hms⟩ := H.out
          exact ⟨r + 1, k2, by omega, hk2, hk2l, rfl, hbr.trans (HB2.out.mono hbr.size)⟩
        case measure => exact H.out.2.2.2
    · obtain rfl : r = q := by omega
      have e1 := HJ.out.last
      rw [hk] at e1
      obtain rfl : k = n := by omega
      have hzx : z = x := by have := HJ.out.hx; rw [hz] at this; cases this; rfl
      subst hzx
      have hzp := HJ.out.hp
      rw [hzp] at d0
      have C1 := hid (fun W hB => CH.out p hplt W hB)
      rw [decide_eq_true HJ.out.hold] at C1
      have KEEP := hid (fun W (hB : Below wr.heap.size wr W) => And.intro ((hB.cell (p := ⟨bf, 0, none⟩) hnl.1).trans n0) (And.intro ((hB.cell (p := ⟨bn, k * 4, none⟩) hnl.2).trans d0) ((hB.cell (p := ⟨w.heap.size, 2, none⟩) (heap_lt hs)).trans c2)))
      have H := hid (And.intro hbw hbr)
      have hR2 := hid ((hbr.block _ (heap_lt HR1.out)).trans HR1.out)
      clear hDr d1 d2 d3 hrr ho hz hzp hk hbw hbr hs e1
      go_wp2
      go_region_held3 (fun w' => w'.cell? ⟨bf, 0, none⟩ = some (.slice (some ⟨bn, 0, none⟩) s.length cap) ∧ w'.cell? ⟨bn, k * 4, none⟩ = some (.int .i64 (p : Int)) ∧ w'.cell? ⟨w.heap.size, 2, none⟩ = some (.int .i64 (c : Int))) (first | exact KP2.out | go_keep) ((
        go_at_call 173
        refine (C1.out _ ?_).mono ?_
        · first | exact below_drewN H.out.1 _ | exact H.out.1.drew | exact H.out.1
        clear C1
        rintro e w2 ⟨rfl, hb2⟩
        have hB2 : Below wr.heap.size wr w2 := ⟨hb2.os, hb2.tape, hb2.output, hb2.size, hb2.block⟩
        have KP2 := hid (KEEP.out w2 hB2)
        have HB2 := hid hB2
        clear hb2 hB2))
      all_goals
        obtain ⟨m0, m1, m2⟩ := KP2.out
        have HW2 := hid (H.out.1.trans (HB2.out.mono H.out.1.size))
        go_wp2_with (
          go_at_call 149
          refine (CA.out _ ?_).mono ?_
          · first | exact below_drewN HW2.out _ | exact HW2.out.drew | exact HW2.out
          clear CA
          rintro e w3 ⟨rfl, hb3⟩
          have hr3 := (hb3.block _ (Nat.lt_of_lt_of_le (heap_lt hR2.out) HB2.out.size)).trans ((HB2.out.block _ (heap_lt hR2.out)).trans hR2.out)
          have r0 := cell_of_heap hr3 0
          have r1 := cell_of_heap hr3 1
          have rf0 := frozen_of_heap hr3 0
          have rf1 := frozen_of_heap hr3 1
          have hrl := heap_lt hr3
          have HB3 := hid (show Below w.heap.size w w3 from HW2.out.trans (hb3.mono HW2.out.size))
          clear hb3 hr3)
        refine bodyPost_ret (v := .agg #[.int .i64 (p : Int), .int .i64 ((m : Int) + 1)]) (by simp [results, Tryz.results162, go_sem, *]) rfl ?_
        refine ⟨rfl, ?_⟩
        have hB := HB3.out
        have hz := hB.size
        go_grown
end
end Go.Proofs.YtabogkonklplcaaGreatDoor

namespace Go.Proofs.YtabogkonklplcaaGreatDoor
open Go.RowKit Go.Lib
set_option linter.unusedSimpArgs false
set_option linter.unusedVariables false
theorem MoveOk.down {m m' : Nat} {w : World} {mv : Value} {f : Mvf} (h : MoveOk m w mv f) (hm : m' ≤ m) : MoveOk m' w mv f := by
  obtain ⟨gf, lb, e, he, hr⟩ := h.runs
  exact ⟨gf, lb, e, he, fun G W hk hG => hr G W hk (fun b hb => hG b (by omega))⟩
def MovesOk (m : Nat) (w : World) (vs : List Value) (fs : List Mvf) : Prop := vs.length = fs.length ∧ ∀ (i : Nat) (v : Value) (f : Mvf), vs[i]? = some v → fs[i]? = some f → MoveOk m w v f
theorem MovesOk.keeps {m : Nat} {w W : World} {vs : List Value} {fs : List Mvf} {G : Nat → Prop} (h : MovesOk m w vs fs) (hk : Keeps G w W) (hG : ∀ b, m ≤ b → ¬ G b) : MovesOk m W vs fs :=
  ⟨h.1, fun i v f h1 h2 => (h.2 i v f h1 h2).keeps hk hG⟩
theorem MovesOk.snoc {m : Nat} {w : World} {vs : List Value} {fs : List Mvf} {v : Value} {f : Mvf} (h : MovesOk m w vs fs) (hv : MoveOk m w v f) : MovesOk m w (vs ++ [v]) (fs ++ [f]) := by
  refine ⟨by simp [h.1], fun i v' f' h1 h2 => ?_⟩
  by_cases hi : i < vs.length
  · rw [List.getElem?_append_left hi] at h1
    rw [List.getElem?_append_left (by rw [← h.1]; exact hi)] at h2
    exact h.2 i v' f' h1 h2
  · rw [List.getElem?_append_right (by omega)] at h1
    rw [List.getElem?_append_right (by rw [← h.1]; omega), ← h.1] at h2
    obtain ⟨k, hk⟩ : ∃ k, k = i - vs.length := ⟨_, rfl⟩
    rw [← hk] at h1 h2
    cases k with
    | zero => simp at h1 h2; subst h1; subst h2; exact hv
    | succ k => simp at h1
theorem compF_take (fs : List Mvf) (k : Nat) (f : Mvf) (h : fs[k]? = some f) (a b : Int) : compF (fs.take (k + 1)) a b = f (compF (fs.take k) a b).1 (compF (fs.take k) a b).2 := by
  obtain ⟨hk, rfl⟩ := List.getElem?_eq_some_iff.1 h
  unfold compF
  rw [List.take_succ_eq_append_getElem hk, List.foldl_append]
  rfl
theorem near_take {fs : List Mvf} (h : ∀ f ∈ fs, Near f) (a b : Int) (h0 : 0 ≤ b) (h1 : b ≤ 100) : ∀ k, k ≤ fs.length → 0 ≤ (compF (fs.take k) a b).2 ∧ (compF (fs.take k) a b).2 ≤ 100 := by
  intro k
  induction k with
  | zero => intro _; exact ⟨h0, h1⟩
  | succ k ih =>
    intro hk
    have hf : fs[k]? = some fs[k] := List.getElem?_eq_getElem (by omega)
    rw [compF_take fs k _ hf]
    have := ih (by omega)
    exact h _ (List.getElem_mem (by omega)) _ _ this.1 this.2
def TurnInv (W : World) (fs : List Mvf) (a b : Int) (t : Value) (wr : World) : Prop :=
  ∃ k : Nat, k ≤ fs.length ∧ t = .int .i64 (k : Int) ∧ wr.heap[W.heap.size]? = some (.cells #[.int .i64 (compF (fs.take k) a b).1, .int .i64 (compF (fs.take k) a b).2] 37 (0, 0)) ∧ wr.heap[W.heap.size + 1]? = some (.cells #[.int .i64 0, .int .i64 0] 37 (0, 0)) ∧ Below W.heap.size W wr
set_option maxRecDepth 20000 in
set_option maxHeartbeats 2000000 in
theorem turn1_run {W : World} {bm m : Nat} {ga : Option Addr} {c : Nat} {vs : List Value} {fs : List Mvf} (hb : W.cell? ⟨bm, 0, none⟩ = some (.slice ga fs.length c)) (hrow : W.ownsRow 0 110 1 (.slice ga fs.length c) fs.length vs) (hM : MovesOk m W vs fs) (hn : ∀ f ∈ fs, Near f) (hl : fs.length < 1000) (a b : Int) (h0 : 0 ≤ b) (h1 : b ≤ 100) :
    Calls Tryz.prog 190 #[.agg #[.int .i64 a, .int .i64 b], ptr bm] W fun e w' => e = .returned (.agg #[.int .i64 (compF fs a b).1, .int .i64 (compF fs a b).2]) ∧ Below W.heap.size W w' := by
  have lb := World.block_lt_of_cell? W _ hb
  have H := hid (And.intro hrow (And.intro hM hn))
  have HBC := hid hb
  have hp0 : Hid ((((W.alloc (.cells #[.int .i64 a, .int .i64 b] 37)).alloc (.cells #[.int .i64 0, .int .i64 0] 37))).heap[W.heap.size]? = some (.cells #[.int .i64 a, .int .i64 b] 37 (0, 0))) := by
    show _ = _
    rw [Below.heap_alloc _ _ _ (by simp)]; exact heap_alloc_new W _
  have hp1 : Hid ((((W.alloc (.cells #[.int .i64 a, .int .i64 b] 37)).alloc (.cells #[.int .i64 0, .int .i64 0] 37))).heap[W.heap.size + 1]? = some (.cells #[.int .i64 0, .int .i64 0] 37 (0, 0))) := by
    have := heap_alloc_new (W.alloc (.cells #[.int .i64 a, .int .i64 b] 37)) (.cells #[.int .i64 0, .int .i64 0] 37)
    rwa [World.size_alloc] at this
  have hB0 : Hid (Below W.heap.size W ((W.alloc (.cells #[.int .i64 a, .int .i64 b] 37)).alloc (.cells #[.int .i64 0, .int .i64 0] 37))) := ((Below.refl _ W).alloc (Nat.le_refl _) _).alloc (by simp) _
  clear hrow hM hn
  go_enter Tryz.func190, Tryz.ntmps190
  go_wp2
  go_loopw [8] (TurnInv W fs a b) (fun t _ => leftN fs.length t)
  case atStart => exact ⟨0, Nat.zero_le _, rfl, hp0.out, hp1.out, hB0.out⟩
  case round =>
    obtain ⟨k, hk, rfl, hP, hR, hB⟩ := hrel
    have c0 := cell_of_heap hP 0
    have c1 := cell_of_heap hP 1
    have f0 := frozen_of_heap hP 0
    have f1 := frozen_of_heap hP 1
    have hpl := heap_lt hP
    have hrl := heap_lt hR
    by_cases hlt : k < fs.length
    · have hlI : (k : Int) < (fs.length : Int) := by omega
      obtain ⟨hrow, hM, hn⟩ := H.out
      have hf : fs[k]? = some fs[k] := List.getElem?_eq_getElem hlt
      obtain ⟨v, hv⟩ : ∃ v, vs[k]? = some v := ⟨_, List.getElem?_eq_getElem (by rw [hM.1]; exact hlt)⟩
      obtain ⟨gf, lbs, hve, hent, hrun⟩ := (hM.2 k v _ hv hf).runs
      subst hve
      obtain ⟨g, hg⟩ : ∃ g, ga = some ⟨g, 0, none⟩ := by
        rcases row_cases hrow with ⟨_, hl0⟩ | ⟨g, cc, hgv⟩
        · omega
        · cases hgv; exact ⟨_, rfl⟩
      subst hg
      have hgl : g < W.heap.size := (hrow.lt g rfl).2
      have cv : wr.cell? ⟨g, k, none⟩ = some (.func (.func gf) #[] lbs) := by
        rw [hB.cell (p := ⟨g, k, none⟩) hgl, hrow.cellAt k (by omega)]
        exact hv
      have hnr := near_take hn a b h0 h1 k hk
      have CM := hid (hrun (fun _ => False) wr (Keeps.of_below hB) (fun _ _ e => e) (compF (fs.take k) a b).1 (compF (fs.take k) a b).2 hnr.1 hnr.2)
      rw [← compF_take fs k _ hf a b] at CM
      obtain ⟨q0, q1, hq⟩ : ∃ q0 q1, compF (fs.take k) a b = (q0, q1) := ⟨_, _, rfl⟩
      obtain ⟨r0, r1, hr⟩ : ∃ r0 r1, compF (fs.take (k + 1)) a b = (r0, r1) := ⟨_, _, rfl⟩
      rw [hq] at CM c0 c1 hP
      rw [hr] at CM
      have HR := hid hr
      have HP := hid (And.intro hP (And.intro hR hB))
      have hgw : ¬ g = W.heap.size := by omega
      clear hrow hM hn hv hf hrun hnr hq hr hP hR hB hp0 hp1 hB0
      go_wp2_with (
        go_at_fn gf
        refine CM.out.mono ?_
        clear CM
        rintro e w1 ⟨rfl, hb1⟩
        have hP1 := (hb1.block _ hpl).trans HP.out.1
        have n0 := cell_of_heap hP1 0
        have n1 := cell_of_heap hP1 1
        have g0 := frozen_of_heap hP1 0
        have g1 := frozen_of_heap hP1 1
        have HP1 := hid hP1
        have HB1 := hid hb1
        clear hb1 hP1)
      obtain ⟨hP, hR, hB⟩ := HP.out
      have a1 := heap_setCell_same w1 _ 0 _ _ (.int .i64 r0) HP1.out
      have a2 := heap_setCell_same _ _ 1 _ _ (.int .i64 r1) a1
      have hR1 := (HB1.out.block _ (heap_lt hR)).trans hR
      refine ⟨⟨k + 1, by omega, by go_num, ?_, ?_, ?_⟩, ?_⟩
      · rw [HR.out, a2]; rfl
      · rw [Below.heap_setCell _ _ _ _ (by simp), Below.heap_setCell _ _ _ _ (by simp)]
        exact hR1
      · exact ((((Keeps.of_below (F := fun _ => False) hB).trans (Keeps.of_below HB1.out)).setCell (p := ⟨W.heap.size, 0, none⟩) (.inr (Nat.le_refl _)) _).setCell (p := ⟨W.heap.size, 1, none⟩) (.inr (Nat.le_refl _)) _).below
      · show fs.length - ((k : Int) + 1).toNat < fs.length - ((k : Int)).toNat
        omega
    · obtain rfl : k = fs.length := by omega
      have hlI : ¬ (fs.length : Int) < (fs.length : Int) := by omega
      rw [List.take_length] at hP c0 c1
      obtain ⟨q0, q1, hq⟩ : ∃ q0 q1, compF fs a b = (q0, q1) := ⟨_, _, rfl⟩
      rw [hq] at c0 c1
      have HQ := hid hq
      have r0 := cell_of_heap hR 0
      have r1 := cell_of_heap hR 1
      have rf0 := frozen_of_heap hR 0
      have rf1 := frozen_of_heap hR 1
      have HB := hid hB
      clear hP hR hB hq hp0 hp1 hB0
      go_wp2
      refine bodyPost_ret (v := .agg #[.int .i64 q0, .int .i64 q1]) (by simp [results, Tryz.results190, go_sem, *]) rfl ?_
      refine ⟨by rw [HQ.out], ?_⟩
      exact (((Keeps.of_below (F := fun _ => False) HB.out).setCell (p := ⟨W.heap.size + 1, 0, none⟩) (.inr (Nat.le_succ _)) _).setCell (p := ⟨W.heap.size + 1, 1, none⟩) (.inr (Nat.le_succ _)) _).below
set_option maxRecDepth 20000 in
set_option maxHeartbeats 1000000 in
theorem inTurn_at {w : World} {m : Nat} {ga : Option Addr} {c : Nat} {vs : List Value} {fs : List Mvf} (hrow : w.ownsRow 0 110 1 (.slice ga fs.length c) fs.length vs) (hrm : ∀ b, (Value.slice ga fs.length c).ownBlock = some b → m ≤ b) (hM : MovesOk m w vs fs) (hn : ∀ f ∈ fs, Near f) (hl : fs.length < 1000) (hmw : m ≤ w.heap.size) :
    Calls Tryz.prog 164 #[.slice ga fs.length c] w fun e w' => ∃ bs, e = .returned (.func (.func 190) #[] bs) ∧ Below w.heap.size w w' ∧ MoveOk m w' (.func (.func 190) #[] bs) (compF fs) := by
  have H := hid (And.intro hrow (And.intro hrm (And.intro hM hn)))
  clear hrow hrm hM hn
  go_enter Tryz.func164, Tryz.ntmps164
  go_wp2
  go_ret
  obtain ⟨hrow, hrm, hM, hn⟩ := H.out
  have hB : Below w.heap.size w (w.alloc (.cells #[.slice ga fs.length c] 235)) := (Below.refl _ w).alloc (Nat.le_refl _) _
  have x0 := heap_alloc_new w (.cells #[.slice ga fs.length c] 235)
  refine ⟨_, rfl, by first | exact hB | go_grown, ?_⟩
  have hk0 := Keeps.of_below (F := fun _ => False) hB
  refine ⟨_, _, rfl, enters_of Tryz.func190 (by kernel_rfl) rfl, fun G W hk hG a b hb0 hb1 => ?_⟩
  exact turn1_run (hk.cell (cell_of_heap x0 0) (hG _ hmw)) (hk.row (hk0.row hrow (fun _ _ e => e)) (fun b e => hG b (hrm b e))) ((hM.keeps hk0 (fun _ _ e => e)).keeps hk hG) hn hl a b hb0 hb1
end Go.Proofs.YtabogkonklplcaaGreatDoor

namespace Go.Proofs.YtabogkonklplcaaGreatDoor
open Go.RowKit
set_option linter.unusedSimpArgs false
set_option linter.unusedVariables false
section
variable {s : List Nd} {h : Nat → Nat} {B : Nat} {F : Nat → Prop} {bf bn cap : Nat} {pn : List PN} {w : World}
def SoFar (w : World) (bf : Nat) (acts : List Dact) (v : Value) (wr : World) : Prop :=
  ∃ (C : Nat → Prop) (cvs : List Value), wr.ownsRow 0 237 1 v acts.length cvs ∧ FnsAt wr C bf acts cvs ∧ (∀ b, C b → w.heap.size ≤ b ∧ b < wr.heap.size ∧ v.ownBlock ≠ some b) ∧ (∀ b, v.ownBlock = some b → w.heap.size ≤ b)
theorem SoFar.below {w w1 w2 : World} {bf : Nat} {acts : List Dact} {v : Value} (h : SoFar w bf acts v w1) (hb : Below w1.heap.size w1 w2) : SoFar w bf acts v w2 := by
  obtain ⟨C, cvs, h1, h2, h3, h4⟩ := h
  have hk := Keeps.of_below (F := fun _ => False) hb
  exact ⟨C, cvs, hk.row h1 (fun _ _ e => e), h2.keeps hk (fun _ _ e => e), fun b e => ⟨(h3 b e).1, Nat.lt_of_lt_of_le (h3 b e).2.1 hb.size, (h3 b e).2.2⟩, h4⟩
theorem SoFar.nil (w wr : World) (bf : Nat) : SoFar w bf [] (.slice none 0 0) wr := ⟨fun _ => False, [], World.ownsRow_nil _ _ _ _, FnsAt.nil _ _ _, fun b e => e.elim, fun b e => by cases e⟩
def DelPost (w : World) (bf : Nat) (acts : List Dact) (e : Ending) (w' : World) : Prop :=
  ∃ (ga : Option Addr) (c : Nat), e = .returned (.slice ga acts.length c) ∧ SoFar w bf acts (.slice ga acts.length c) w' ∧ Below w.heap.size w w'
def TwoPl (W0 : World) (a b c d : Int) (s5 s6 : Value) (wc : World) : Prop :=
  ∃ p q, s5 = .pointer (some ⟨p, 0, none⟩) ∧ s6 = .pointer (some ⟨q, 0, none⟩) ∧ wc.heap[p]? = some (.cells #[.int .i64 a, .int .i64 b] 37 (0, 0)) ∧ wc.heap[q]? = some (.cells #[.int .i64 c, .int .i64 d] 37 (0, 0)) ∧ Below W0.heap.size W0 wc
theorem two_allocs (W0 : World) (o1 o2 : Array Value) : ((W0.alloc (.cells o1 37)).alloc (.cells o2 37)).drew.heap[W0.heap.size]? = some (.cells o1 37 (0, 0)) ∧ ((W0.alloc (.cells o1 37)).alloc (.cells o2 37)).drew.heap[W0.heap.size + 1]? = some (.cells o2 37 (0, 0)) ∧ Below W0.heap.size W0 ((W0.alloc (.cells o1 37)).alloc (.cells o2 37)).drew := by
  refine ⟨?_, ?_, (((Below.refl _ W0).alloc (Nat.le_refl _) _).alloc (by simp) _).drew⟩
  · show ((W0.alloc (.cells o1 37)).alloc (.cells o2 37)).heap[W0.heap.size]? = _
    rw [Below.heap_alloc _ _ _ (by simp)]
    exact heap_alloc_new W0 _
  · have := heap_alloc_new (W0.alloc (.cells o1 37)) (.cells o2 37)
    rw [World.size_alloc] at this
    exact this
theorem twoPl_one (W0 : World) (a b c d : Int) {n : Nat} (hn : W0.heap.size = n) : TwoPl W0 a b c d (.pointer (some ⟨n, 0, none⟩)) (.pointer (some ⟨n + 1, 0, none⟩)) ((W0.alloc (.cells #[.int .i64 a, .int .i64 b] 37)).alloc (.cells #[.int .i64 c, .int .i64 d] 37)).drew := by
  subst hn
  obtain ⟨h1, h2, h3⟩ := two_allocs W0 #[.int .i64 a, .int .i64 b] #[.int .i64 c, .int .i64 d]
  exact ⟨_, _, rfl, rfl, h1, h2, h3⟩
theorem twoPl_two (W0 : World) (a b c d : Int) {n : Nat} (hn : W0.heap.size = n) : TwoPl W0 a b c d (.pointer (some ⟨n + 1, 0, none⟩)) (.pointer (some ⟨n, 0, none⟩)) ((W0.alloc (.cells #[.int .i64 c, .int .i64 d] 37)).alloc (.cells #[.int .i64 a, .int .i64 b] 37)).drew := by
  subst hn
  obtain ⟨h1, h2, h3⟩ := two_allocs W0 #[.int .i64 c, .int .i64 d] #[.int .i64 a, .int .i64 b]
  exact ⟨_, _, rfl, rfl, h2, h1, h3⟩
set_option maxRecDepth 20000 in
set_option maxHeartbeats 1000000 in
theorem tdeletion_one (hD : PForAt w F bf bn cap pn s) (a b d : Nat) (x : Nd) (hx : s[a]? = some x) (ht : x.t = true) :
    Calls Tryz.prog 163 #[ptr bf, spV ⟨a, b, a, d⟩] w (DelPost w bf [(a, some (b, d))]) := by
  have ha : a < s.length := (List.getElem?_eq_some_iff.1 hx).1
  have n0 := hD.nodesCell
  have hlt := hD.lt
  obtain ⟨r, hr, ho, c0, c1, c2, c3⟩ := hD.look hx
  rw [ht] at c1
  have haI : (a : Int) < (s.length : Int) := by omega
  clear hD hr ho c0 c2 c3 hx
  go_enter Tryz.func163, Tryz.ntmps163
  go_wp2
  obtain ⟨W0, hW0⟩ : ∃ W0, (w.alloc (.cells #[ptr bf] 91)).alloc (.cells #[.int .i64 (a : Int), .int .i64 (b : Int), .int .i64 (a : Int), .int .i64 (d : Int)] 79) = W0 := ⟨_, rfl⟩
  have hsz0 : W0.heap.size = w.heap.size + 2 := by rw [← hW0]; simp
  have hb0 : Below w.heap.size w W0 := by rw [← hW0]; exact ((Below.refl _ w).alloc (Nat.le_refl _) _).alloc (by simp) _
  have y0 : W0.heap[w.heap.size]? = some (.cells #[ptr bf] 91 (0, 0)) := by
    rw [← hW0, Below.heap_alloc _ _ _ (by simp), heap_alloc_new]
  have y1 : W0.heap[w.heap.size + 1]? = some (.cells #[.int .i64 (a : Int), .int .i64 (b : Int), .int .i64 (a : Int), .int .i64 (d : Int)] 79 (0, 0)) := by
    have := heap_alloc_new (w.alloc (.cells #[ptr bf] 91)) (.cells #[.int .i64 (a : Int), .int .i64 (b : Int), .int .i64 (a : Int), .int .i64 (d : Int)] 79)
    rw [World.size_alloc] at this
    rw [← hW0]; exact this
  rw [hW0]
  have s0 := cell_of_heap y1 0
  have s1 := cell_of_heap y1 1
  have s2 := cell_of_heap y1 2
  have s3 := cell_of_heap y1 3
  have hl1 := heap_lt y1
  have HY := hid (And.intro y0 (And.intro y1 hb0))
  clear y0 y1 hb0 hW0
  go_cut [5, 6] from 12 to 15 (fun s5 s6 wc => TwoPl W0 a b a d s5 s6 wc)
  case first =>
    go_region
    all_goals
      go_wp2_with fail
      go_meet
      case rel => first | exact twoPl_one W0 _ _ _ _ hsz0 | exact twoPl_two W0 _ _ _ _ hsz0
  case rest =>
    obtain ⟨p, q, rfl, rfl, hp, hq, hbc⟩ := hcut
    obtain ⟨y0, y1, hb0⟩ := HY.out
    have hbw : Below w.heap.size w wc := hb0.trans (hbc.mono hb0.size)
    have e0 := (hbw.cell (p := ⟨bf, 0, none⟩) hlt.1).trans n0
    have e1 := (hbw.cell (p := ⟨bn, a * 4 + 1, none⟩) hlt.2).trans c1
    have z0 := (hbc.block _ (heap_lt y0)).trans y0
    have g0 := cell_of_heap z0 0
    have p0 := cell_of_heap hp 0
    have p1 := cell_of_heap hp 1
    have q0 := cell_of_heap hq 0
    have q1 := cell_of_heap hq 1
    have HBW := hid hbw
    have HK := hid (And.intro hp (And.intro hq z0))
    clear hp hq z0 hbc hbw y0 y1 hb0 HY s0 s1 s2 s3 n0 c1
    go_wp2
    go_quiet (fail)
    go_wp2_with (
      go_at_call 187
      refine (cut_any bf (a : Int) (b : Int) (d : Int) _).mono ?_
      rintro e w3 ⟨rfl, hw3⟩
      have HW3 := hid hw3
      clear hw3)
    go_ret
    have hw3 := HW3.out
    have hbw := below_drewN HBW.out nq
    have hfn := cut_fn (wc.drewN nq) bf a b d
    rw [← hw3] at hfn
    have hb3 : Below (wc.drewN nq).heap.size (wc.drewN nq) w3 := by
      rw [hw3]
      exact ((((Below.refl _ _).alloc (Nat.le_refl _) _).alloc (by simp) _).alloc (by simp; omega) _).alloc (by simp; omega) _
    have hz3 : w3.heap.size = wc.heap.size + 4 := by rw [hw3]; simp
    have hz1 := HBW.out.size
    have hB3 : Below w.heap.size w w3 := hbw.trans (hb3.mono hbw.size)
    have hrow := World.ownsRow_lit (base := 0) (e := 237) (size := 1) w3 #[.func (.func 198) #[] #[ptr wc.heap.size, ptr (wc.heap.size + 1), ptr (wc.heap.size + 2), ptr (wc.heap.size + 3)]] 1 (Nat.zero_le _) (by decide) rfl
    refine ⟨some ⟨w3.heap.size, 0, none⟩, 1, rfl, ⟨fun b => wc.heap.size ≤ b ∧ b < wc.heap.size + 4, [.func (.func 198) #[] #[ptr wc.heap.size, ptr (wc.heap.size + 1), ptr (wc.heap.size + 2), ptr (wc.heap.size + 3)]], by simpa using hrow, ?_, fun k e => ⟨by omega, by simp; omega, ?_⟩, fun k e => ?_⟩, hB3.alloc hB3.size _⟩
    · have h1 := (FnsAt.nil w3 _ bf).snoc hfn
      exact h1.keeps (G := fun _ => False) ((Keeps.refl _ w3).alloc _) (fun _ _ e => e)
    · intro e1
      have e' : w3.heap.size = k := by simpa [Value.ownBlock] using e1
      omega
    · have e' : w3.heap.size = k := by simpa [Value.ownBlock] using e
      omega
end
end Go.Proofs.YtabogkonklplcaaGreatDoor

namespace Go.Proofs.YtabogkonklplcaaGreatDoor
open Go.RowKit
set_option linter.unusedSimpArgs false
set_option linter.unusedVariables false
theorem SoFar.push {w wr w2 w1 : World} {bf : Nat} {acts : List Dact} {v v' : Value} {a : Dact} {cv : Value} {C C' : Nat → Prop} {cvs : List Value} (h2 : FnsAt wr C bf acts cvs) (h3 : ∀ b, C b → w.heap.size ≤ b ∧ b < wr.heap.size ∧ v.ownBlock ≠ some b) (h4 : ∀ b, v.ownBlock = some b → w.heap.size ≤ b) (hb : Below wr.heap.size wr w2) (hf : FnAt w2 C' bf a cv) (hC' : ∀ b, C' b → w.heap.size ≤ b ∧ b < w2.heap.size ∧ v.ownBlock ≠ some b)
    (hg : w2.grownBy w1 v.ownBlock) (ho : w1.ownsRow 0 237 1 v' (acts.length + 1) (cvs ++ [cv])) (hob : v'.ownBlock = v.ownBlock ∨ ∃ k, v'.ownBlock = some k ∧ w2.heap.size ≤ k) : SoFar w bf (acts ++ [a]) v' w1 := by
  have hk : Keeps (fun b => v.ownBlock = some b) w2 w1 := Keeps.grown hg (fun k e => .inl e)
  have hk0 := Keeps.of_below (F := fun _ => False) hb
  have hz := hk.size
  have hzb := hb.size
  have hex : ∃ b, C' b := by
    obtain ⟨n, oe⟩ := a
    cases oe with
    | none => obtain ⟨x0, _, _, _, _, l0, _⟩ := hf; exact ⟨_, l0⟩
    | some oe => obtain ⟨o, e'⟩ := oe; obtain ⟨x0, _, _, _, _, _, _, _, _, l0, _⟩ := hf; exact ⟨_, l0⟩
  refine ⟨fun b => C b ∨ C' b, cvs ++ [cv], by rw [List.length_append]; exact ho, ?_, ?_, ?_⟩
  · exact FnsAt.snoc (((h2.keeps hk0 (fun _ _ e => e)).keeps hk (fun b e => (h3 b e).2.2)).wider (fun b e => .inl e)) ((hf.keeps hk (fun b e => (hC' b e).2.2)).wider (fun b e => .inr e))
  · rintro b (e | e)
    · have h5 := h3 b e
      refine ⟨h5.1, by omega, fun e1 => ?_⟩
      rcases hob with e2 | ⟨k, e2, e3⟩
      · exact h5.2.2 (e2 ▸ e1)
      · rw [e2] at e1
        cases e1
        omega
    · have h5 := hC' b e
      refine ⟨h5.1, by omega, fun e1 => ?_⟩
      rcases hob with e2 | ⟨k, e2, e3⟩
      · exact h5.2.2 (e2 ▸ e1)
      · rw [e2] at e1
        cases e1
        omega
  · intro b e1
    rcases hob with e2 | ⟨k, e2, e3⟩
    · exact h4 b (e2 ▸ e1)
    · rw [e2] at e1
      cases e1
      obtain ⟨b', hb'⟩ := hex
      have := hC' b' hb'
      omega
section
variable {s : List Nd} {h : Nat → Nat} {B : Nat} {F : Nat → Prop} {bf bn cap : Nat} {pn : List PN} {w : World}
set_option maxRecDepth 20000 in
set_option maxHeartbeats 4000000 in
theorem tdeletion_many (wf : WF s) (u : Up s h B) (hD : PForAt w F bf bn cap pn s) (a b c d t : Nat) (x y : Nd) (hx : s[a]? = some x) (hy : s[c]? = some y) (ta : IsTop s a t) (tc : IsTop s c t) (hb : b ≤ sizeAt s a) (hd : d ≤ sizeAt s c) (hac : a ≠ c ∨ x.t = false) :
    Calls Tryz.prog 163 #[ptr bf, spV ⟨a, b, c, d⟩] w (DelPost w bf (delActs s B a b c d t)) := by
  obtain ⟨i0, hi, hz0, hz1, hz2⟩ := info_parts Tryz.info237
  have ha : a < s.length := (List.getElem?_eq_some_iff.1 hx).1
  have hc : c < s.length := (List.getElem?_eq_some_iff.1 hy).1
  have n0 := hD.nodesCell
  have hlt := hD.lt
  obtain ⟨r, hr, ho, c0, c1, c2, c3⟩ := hD.look hx
  obtain ⟨r2, hr2, ho2, d0, d1, d2, d3⟩ := hD.look hy
  have haI : (a : Int) < (s.length : Int) := by omega
  have hcI : (c : Int) < (s.length : Int) := by omega
  have CI := hid (fun W (hB : Below w.heap.size w W) => tinside_any wf u (hD.below hB) a b c d t ha hc ta tc hb hd)
  have hch := wf.chars a x hx
  have CC := hid (fun W => count_any x.cs hch.2 (by unfold lots; omega) W)
  have hes : endAct s a b (csOf s a).length = if x.t = true then [(a, some (b, x.cs.length))] else [] := by
    unfold endAct; rw [hx, csOf_eq hx]; simp
  have hee : endAct s c 0 d = if y.t = true then [(c, some (0, d))] else [] := by
    unfold endAct; rw [hy]; simp
  unfold delActs
  rw [hes, hee]
  have hll : (leaveF s (plF s (B + 1) t) a b c d (allF s (B + 1) t)).length ≤ 40 := Nat.le_trans (leave_len _ _ _ _ _ _ _) (all_length wf (B + 1) t ta.lt)
  generalize hL : leaveF s (plF s (B + 1) t) a b c d (allF s (B + 1) t) = L at *
  obtain ⟨AC, hAC⟩ : ∃ AC, (if x.t = true then [(a, some (b, x.cs.length))] else []) ++ L.map (fun i => ((i, none) : Dact)) ++ (if y.t = true then [(c, some (0, d))] else []) = AC := ⟨_, rfl⟩
  rw [hAC]
  have HAC := hid hAC
  clear hD hr ho c0 c2 hr2 ho2 d0 d2 d3 wf u hx hy ta tc hes hee hL hch hAC
  go_enter Tryz.func163, Tryz.ntmps163
  go_wp2
  obtain ⟨W0, hW0⟩ : ∃ W0, (w.alloc (.cells #[ptr bf] 91)).alloc (.cells #[.int .i64 (a : Int), .int .i64 (b : Int), .int .i64 (c : Int), .int .i64 (d : Int)] 79) = W0 := ⟨_, rfl⟩
  have hsz0 : W0.heap.size = w.heap.size + 2 := by rw [← hW0]; simp
  have hb0 : Below w.heap.size w W0 := by rw [← hW0]; exact ((Below.refl _ w).alloc (Nat.le_refl _) _).alloc (by simp) _
  have y0 : W0.heap[w.heap.size]? = some (.cells #[ptr bf] 91 (0, 0)) := by
    rw [← hW0, Below.heap_alloc _ _ _ (by simp), heap_alloc_new]
  have y1 : W0.heap[w.heap.size + 1]? = some (.cells #[.int .i64 (a : Int), .int .i64 (b : Int), .int .i64 (c : Int), .int .i64 (d : Int)] 79 (0, 0)) := by
    have := heap_alloc_new (w.alloc (.cells #[ptr bf] 91)) (.cells #[.int .i64 (a : Int), .int .i64 (b : Int), .int .i64 (c : Int), .int .i64 (d : Int)] 79)
    rw [World.size_alloc] at this
    rw [← hW0]; exact this
  rw [hW0]
  have s0 := cell_of_heap y1 0
  have s1 := cell_of_heap y1 1
  have s2 := cell_of_heap y1 2
  have s3 := cell_of_heap y1 3
  have hl1 := heap_lt y1
  have HY := hid (And.intro y0 (And.intro y1 hb0))
  clear y0 y1 hb0 hW0
  go_cut [5, 6] from 12 to 15 (fun s5 s6 wc => TwoPl W0 a b c d s5 s6 wc)
  case first =>
    go_region
    all_goals
      go_wp2_with fail
      go_meet
      case rel => first | exact twoPl_one W0 _ _ _ _ hsz0 | exact twoPl_two W0 _ _ _ _ hsz0
  case rest =>
    obtain ⟨p, q, rfl, rfl, hp, hq, hbc⟩ := hcut
    obtain ⟨y0, y1, hb0⟩ := HY.out
    have hbw : Below w.heap.size w wc := hb0.trans (hbc.mono hb0.size)
    have e0 := (hbw.cell (p := ⟨bf, 0, none⟩) hlt.1).trans n0
    have e1 := (hbw.cell (p := ⟨bn, a * 4 + 1, none⟩) hlt.2).trans c1
    have e2 := (hbw.cell (p := ⟨bn, c * 4 + 1, none⟩) hlt.2).trans d1
    have e3 := (hbw.cell (p := ⟨bn, a * 4 + 3, none⟩) hlt.2).trans c3
    have z0 := (hbc.block _ (heap_lt y0)).trans y0
    have z1 := (hbc.block _ (heap_lt y1)).trans y1
    have g0 := cell_of_heap z0 0
    have p0 := cell_of_heap hp 0
    have p1 := cell_of_heap hp 1
    have q0 := cell_of_heap hq 0
    have q1 := cell_of_heap hq 1
    have t0 := cell_of_heap z1 0
    have t1 := cell_of_heap z1 1
    have t2 := cell_of_heap z1 2
    have t3 := cell_of_heap z1 3
    have HBW := hid hbw
    have HK := hid (And.intro hp (And.intro hq (And.intro z0 z1)))
    have hpl := heap_lt hp
    have hql := heap_lt hq
    clear hp hq z0 z1 hbc hbw y0 y1 hb0 HY s0 s1 s2 s3 n0 c1 c3 d1
    have hgd : (x.t && ((a : Int) == (c : Int))) = false := by
      rcases hac with h | h
      · have : ((a : Int) == (c : Int)) = false := by simp; omega
        rw [this, Bool.and_false]
      · rw [h, Bool.false_and]
    cases hxt : x.t with
    | false =>
      rw [hxt] at e1
      clear hgd hac CC
      go_wp2
      go_quiet (fail)
      go_wp2_with (
        go_at_call 188
        refine (CI.out _ (below_drewN HBW.out _)).mono ?_
        rintro e w3 ⟨sa, sc, rfl, hr3, hb3, hg3⟩
        have HR3 := hid (And.intro hr3 hg3)
        have hb3' : Below wc.heap.size wc w3 := ⟨hb3.os, hb3.tape, hb3.output, hb3.size, hb3.block⟩
        have HB3 := hid hb3'
        have hz3 := hb3'.size
        clear hr3 hb3 hg3 hb3')
      have SF := hid (SoFar.nil w w3 bf)
      have NV : Hid ((Value.slice none 0 0).ownBlock ≠ some w.heap.size ∧ (Value.slice none 0 0).ownBlock ≠ some q ∧ (∀ gL, sa = some ⟨gL, 0, none⟩ → (Value.slice none 0 0).ownBlock ≠ some gL)) := ⟨fun e => (by cases e), fun e => (by cases e), fun _ _ e => (by cases e)⟩
      have VGE : Hid (∀ b, (Value.slice none 0 0).ownBlock = some b → w.heap.size ≤ b) := fun b e => (by cases e)
      go_loopw [9, 75] (fun t9 s75 wr => ∃ (k : Nat) (s9 : Value), k ≤ L.length ∧ t9 = s9 ∧ s75 = .int .i64 (k : Int) ∧ SoFar w bf (([] : List Dact) ++ (L.take k).map (fun i => ((i, none) : Dact))) s9 wr ∧ Keeps (fun b => (Value.slice none 0 0).ownBlock = some b) w3 wr ∧ ((∀ b, s9.ownBlock = some b → (Value.slice none 0 0).ownBlock = some b) ∨ ∀ b, s9.ownBlock = some b → w3.heap.size ≤ b)) (fun _ t _ => leftN L.length t)
      case atStart => exact ⟨0, _, Nat.zero_le _, rfl, rfl, by simpa using SF.out, Keeps.refl _ _, .inl (fun b e => e)⟩
      case round =>
        obtain ⟨k, s9, hk, h9, rfl, hSF, hK, hob0⟩ := hrel
        replace h9 := h9.symm
        subst h9
        have hKf : wr.heap[w.heap.size]? = some (.cells #[ptr bf] 91 (0, 0)) := (hK.block _ (Nat.lt_of_lt_of_le (heap_lt HK.out.2.2.1) hz3) NV.out.1).trans ((HB3.out.block _ (heap_lt HK.out.2.2.1)).trans HK.out.2.2.1)
        have hKq : wr.heap[q]? = some (.cells #[.int .i64 (c : Int), .int .i64 (d : Int)] 37 (0, 0)) := (hK.block _ (Nat.lt_of_lt_of_le hql hz3) NV.out.2.1).trans ((HB3.out.block _ hql).trans HK.out.2.1)
        obtain ⟨C, cvs, hrow, hfns, hC, hgw⟩ := hSF
        obtain ⟨ga, cc, hv⟩ := slice_form hrow
        have hSF : SoFar w bf (([] : List Dact) ++ (L.take k).map (fun i => ((i, none) : Dact))) s9 wr := ⟨C, cvs, hrow, hfns, hC, hgw⟩
        have hnf : s9.ownBlock ≠ some w.heap.size := fun e => by
          rcases hob0 with h | h
          · exact NV.out.1 (h _ e)
          · have := h _ e
            have := heap_lt HK.out.2.2.1
            omega
        have hlen : (([] : List Dact) ++ (L.take k).map (fun i => ((i, none) : Dact))).length = ([] : List Dact).length + k := by simp; omega
        obtain ⟨n0, hn0⟩ : ∃ n0, (([] : List Dact) ++ (L.take k).map (fun i => ((i, none) : Dact))).length = n0 := ⟨_, rfl⟩
        rw [hn0] at hrow hv hlen
        have hA0 : ([] : List Dact).length ≤ 1 := by simp
        have hn100 : n0 < 100 := by omega
        have HLEN := hid hlen
        clear hlen
        have hzK := hK.size
        subst hv
        by_cases hlt : k < L.length
        · have hlI : (k : Int) < (L.length : Int) := by omega
          obtain ⟨hr3, hg3⟩ := HR3.out
          obtain ⟨z, hz⟩ : ∃ z, L[k]? = some z := ⟨_, List.getElem?_eq_getElem hlt⟩
          obtain ⟨gL, hgL⟩ : ∃ gL, sa = some ⟨gL, 0, none⟩ := by
            rcases row_cases hr3 with ⟨_, hl0⟩ | ⟨g, c2, hgv⟩
            · omega
            · cases hgv; exact ⟨_, rfl⟩
          subst hgL
          have cz : wr.cell? ⟨gL, k, none⟩ = some (.int .i64 (z : Int)) := by
            refine hK.cell ?_ (fun e => NV.out.2.2 gL rfl e)
            rw [hr3.cellAt k (by simp [intsV]; omega)]
            simp [intsV, hz]
          have hgl : gL < wr.heap.size := World.block_lt_of_cell? wr _ cz
          have hgne : ¬ gL = wr.heap.size := by omega
          have HF := hid hKf
          have HSF := hid (And.intro (And.intro hfns (And.intro hC hgw)) (And.intro hnf (And.intro hob0 (And.intro hK hn0))))
          have HZ := hid hz
          have hfl := heap_lt hKf
          have HROW := hid hrow
          clear hKf hKq hSF hnf hob0 hK hrow hfns hC hgw hr3 hg3 hz hn0
          go_wp2_with (at_builtin
                       refine wpList_append_own_at _ rfl _ _ 233 rfl 0 237 i0 .nilFunc 1 8 Tryz.underlying233 hi hz0 hz1 hz2 rfl (by decide) (.slice ga n0 cc) _ _ rfl ((HROW.out.alloc _).alloc _) ⟨wr.heap.size + 1, 0, none⟩ 1 1 [.func (.func 189) #[] #[ptr w.heap.size, ptr wr.heap.size]] rfl rfl (by have := cell_one_new (wr.alloc (.cells #[.int .i64 (z : Int)] 3)) (.func (.func 189) #[] #[ptr w.heap.size, ptr wr.heap.size]) 237; simpa using this) (by simp [Value.oneCell']) (by unfold maxLen; omega) (by omega) (Nat.zero_le _) ?_
                       intro v' w1 hown' hgrow _ hob
                       obtain ⟨g', cap', rfl⟩ := ownsRow_succ hown'
                       have HW := hid hown'
                       have HG := hid hgrow
                       have HOB := hid hob
                       clear hown' hgrow hob)
          obtain ⟨⟨hfns, hC, hgw⟩, hnf, hob0, hK, hn0⟩ := HSF.out
          obtain ⟨W2, hW2⟩ : ∃ W2, (wr.alloc (.cells #[.int .i64 (z : Int)] 3)).alloc (.cells #[.func (.func 189) #[] #[ptr w.heap.size, ptr wr.heap.size]] 237) = W2 := ⟨_, rfl⟩
          have hW := HW.out
          have hG := HG.out
          have hOB := HOB.out
          have hb2 : Below wr.heap.size wr W2 := by rw [← hW2]; exact ((Below.refl _ wr).alloc (Nat.le_refl _) _).alloc (by simp) _
          have hz2' : W2.heap.size = wr.heap.size + 2 := by rw [← hW2]; simp
          have xz : W2.heap[wr.heap.size]? = some (.cells #[.int .i64 (z : Int)] 3 (0, 0)) := by
            rw [← hW2, Below.heap_alloc _ _ _ (by simp)]; exact heap_alloc_new wr _
          have xf := (hb2.block _ hfl).trans HF.out
          have hvl : ∀ b, (Value.slice ga n0 cc).ownBlock = some b → b < wr.heap.size := fun b e => (HROW.out.lt b e).2
          have hob2 : (Value.slice (some ⟨g', 0, none⟩) (n0 + 1) cap').ownBlock = (Value.slice ga n0 cc).ownBlock ∨ ∃ k, (Value.slice (some ⟨g', 0, none⟩) (n0 + 1) cap').ownBlock = some k ∧ W2.heap.size ≤ k := by
            rcases hOB with e | e
            · exact .inl e
            · exact .inr ⟨_, e, by rw [← hW2]; exact Nat.le_refl _⟩
          rw [show (wr.alloc (.cells #[.int .i64 (z : Int)] 3)).alloc (.cells #[.func (.func 189) #[] #[.pointer (some ⟨w.heap.size, 0, none⟩), .pointer (some ⟨wr.heap.size, 0, none⟩)]] 237) = W2 from hW2] at hG
          have hfn : FnAt W2 (fun b => b = w.heap.size ∨ b = wr.heap.size) bf (z, none) (.func (.func 189) #[] #[ptr w.heap.size, ptr wr.heap.size]) := ⟨_, _, rfl, cell_of_heap xf 0, cell_of_heap xz 0, .inl rfl, .inr rfl⟩
          have hkG : Keeps (fun b => (Value.slice ga n0 cc).ownBlock = some b) W2 w1 := Keeps.grown hG (fun k e => .inl e)
          have htk : (([] : List Dact) ++ (L.take (k + 1)).map (fun i => ((i, none) : Dact))) = (([] : List Dact) ++ (L.take k).map (fun i => ((i, none) : Dact))) ++ [(z, none)] := by
            rw [List.take_add_one, HZ.out]
            simp
          have hpush : SoFar w bf ((([] : List Dact) ++ (L.take k).map (fun i => ((i, none) : Dact))) ++ [(z, none)]) (.slice (some ⟨g', 0, none⟩) (n0 + 1) cap') w1 := by
            refine SoFar.push hfns hC hgw hb2 hfn (fun b e => ?_) hG (by rw [hn0]; exact hW) hob2
            · rcases e with e | e
              · subst e
                exact ⟨Nat.le_refl _, by omega, hnf⟩
              · subst e
                exact ⟨by omega, by omega, fun e1 => by have := hvl _ e1; omega⟩
          have hn0k : n0 = ([] : List Dact).length + k := HLEN.out
          refine ⟨⟨k + 1, _, by omega, rfl, by go_num, ?_, ?_, ?_⟩, ?_⟩
          · rw [htk]; first | exact hpush | (rw [hn0k] at hpush; simpa using hpush)
          · refine (hK.trans (Keeps.of_below hb2)).trans (hkG.mono (fun b _ e => ?_))
            rcases hob0 with h | h
            · exact .inl (h b e)
            · exact .inr (h b e)
          · rcases hob2 with e | ⟨k', e, e2⟩
            · rcases hob0 with h | h
              · exact .inl (fun b e1 => h b (e ▸ e1))
              · exact .inr (fun b e1 => h b (e ▸ e1))
            · exact .inr (fun b e1 => by
                have e3 : g' = b := by simpa [Value.ownBlock] using e1
                have e4 : g' = k' := by simpa [Value.ownBlock] using e
                omega)
          · show L.length - ((k : Int) + 1).toNat < L.length - ((k : Int)).toNat
            omega
        · obtain rfl : k = L.length := by omega
          have hlI : ¬ (L.length : Int) < (L.length : Int) := by omega
          have hBwr : Below w.heap.size w wr := ((Keeps.of_below (F := fun _ => False) (HBW.out.trans (HB3.out.mono HBW.out.size))).trans (hK.mono (fun b _ e => .inr (VGE.out b e)))).below
          rw [List.take_length] at hn0 hSF hfns
          have HBR := hid hBwr
          have HF := hid hKf
          have HSF := hid (And.intro hSF (And.intro (And.intro hfns (And.intro hC hgw)) (And.intro hnf hn0)))
          have hfl := heap_lt hKf
          have HROW := hid hrow
          have f0 := cell_of_heap hKf 0
          have w0' := cell_of_heap hKq 0
          have w1' := cell_of_heap hKq 1
          have hqr := heap_lt hKq
          clear hKf hKq hSF hnf hob0 hK hrow hfns hC hgw hn0 hBwr
          cases hyt : y.t with
          | false =>
            have hT : AC = ([] : List Dact) ++ L.map (fun i => ((i, none) : Dact)) := by rw [← HAC.out, hxt, hyt]; simp
            have HT := hid hT
            clear hT
            go_wp2
            go_ret
            obtain ⟨hSF, _, _, hn0⟩ := HSF.out
            rw [HT.out]
            refine ⟨ga, cc, ?_, ?_, HBR.out⟩
            · first | (rw [hn0]; done) | (rw [hn0]; rfl)
            · rw [hn0]; exact hSF
          | true =>
            have hT : AC = (([] : List Dact) ++ L.map (fun i => ((i, none) : Dact))) ++ [(c, some (0, d))] := by rw [← HAC.out, hxt, hyt]; simp
            have HT := hid hT
            clear hT
            go_wp2_with first
              | (go_at_call 187
                 refine (cut_any bf (c : Int) 0 (d : Int) _).mono ?_
                 rintro e w5 ⟨rfl, hw5⟩
                 have hb5 : Below wr.heap.size wr w5 := by
                   rw [hw5]
                   exact ((((Below.refl _ _).alloc (Nat.le_refl _) _).alloc (by simp) _).alloc (by simp; omega) _).alloc (by simp; omega) _
                 have HZ5 : Hid (w5.heap.size = wr.heap.size + 4) := by show _ = _; rw [hw5]; simp
                 have hfn := cut_fn wr bf c 0 d
                 rw [show (((wr.alloc (.cells #[ptr bf] 91)).alloc (.cells #[.int .i64 (c : Int)] 3)).alloc (.cells #[.int .i64 ((0 : Nat) : Int)] 3)).alloc (.cells #[.int .i64 (d : Int)] 3) = w5 from hw5.symm] at hfn
                 have HFN := hid hfn
                 have HB5 := hid hb5
                 have HROW5 := hid ((Keeps.of_below (F := fun _ => False) hb5).row HROW.out (fun _ _ e => e))
                 clear hw5 hfn hb5)
              | (at_builtin
                 go_loud (refine wpList_append_own_at _ rfl _ _ 233 rfl 0 237 i0 .nilFunc 1 8 Tryz.underlying233 hi hz0 hz1 hz2 rfl (by decide) (.slice ga n0 cc) _ _ rfl (HROW5.out.alloc _) ⟨w5.heap.size, 0, none⟩ 1 1 [.func (.func 198) #[] #[ptr wr.heap.size, ptr (wr.heap.size + 1), ptr (wr.heap.size + 2), ptr (wr.heap.size + 3)]] rfl rfl (cell_one_new _ _ _) (by simp [Value.oneCell']) (by unfold maxLen; omega) (by omega) (Nat.zero_le _) ?_)
                 intro v' w1 hown' hgrow _ hob
                 obtain ⟨g', cap', rfl⟩ := ownsRow_succ hown'
                 have HW := hid hown'
                 have HG := hid hgrow
                 have HOB := hid hob
                 clear hown' hgrow hob)
            go_ret
            obtain ⟨_, ⟨hfns, hC, hgw⟩, hnf, hn0⟩ := HSF.out
            rw [HT.out]
            have hW := HW.out
            have hG := HG.out
            have hOB := HOB.out
            have hz5 := HZ5.out
            have hvl : ∀ b, (Value.slice ga n0 cc).ownBlock = some b → b < wr.heap.size := fun b e => (HROW.out.lt b e).2
            have hob2 : (Value.slice (some ⟨g', 0, none⟩) (n0 + 1) cap').ownBlock = (Value.slice ga n0 cc).ownBlock ∨ ∃ k, (Value.slice (some ⟨g', 0, none⟩) (n0 + 1) cap').ownBlock = some k ∧ (w5.alloc (.cells #[.func (.func 198) #[] #[ptr wr.heap.size, ptr (wr.heap.size + 1), ptr (wr.heap.size + 2), ptr (wr.heap.size + 3)]] 237)).heap.size ≤ k := by
              rcases hOB with e | e
              · exact .inl e
              · exact .inr ⟨_, e, Nat.le_refl _⟩
            have hb6 : Below wr.heap.size wr (w5.alloc (.cells #[.func (.func 198) #[] #[ptr wr.heap.size, ptr (wr.heap.size + 1), ptr (wr.heap.size + 2), ptr (wr.heap.size + 3)]] 237)) := HB5.out.alloc HB5.out.size _
            have hpush : SoFar w bf ((([] : List Dact) ++ L.map (fun i => ((i, none) : Dact))) ++ [(c, some (0, d))]) (.slice (some ⟨g', 0, none⟩) (n0 + 1) cap') w1 := by
              refine SoFar.push hfns hC hgw hb6 (HFN.out.keeps (G := fun _ => False) ((Keeps.refl _ w5).alloc _) (fun _ _ e => e)) (fun b e => ?_) hG (by rw [hn0]; exact hW) hob2
              have hzr := HBR.out.size
              exact ⟨by omega, by simp; omega, fun e1 => by have := hvl _ e1; omega⟩
            refine ⟨some ⟨g', 0, none⟩, cap', ?_, ?_, ?_⟩
            · rw [List.length_append, hn0]; rfl
            · rw [List.length_append, hn0]; exact hpush
            · exact (((Keeps.of_below (F := fun _ => False) HBR.out).trans (Keeps.of_below hb6)).trans (Keeps.grown hG (fun k e => .inl (.inr (hgw k e))))).below
    | true =>
      rw [hxt] at e1
      have hne : ¬ a = c := by
        rcases hac with h | h
        · exact h
        · rw [hxt] at h; cases h
      have hnI : ((a : Int) == (c : Int)) = false := by simp; omega
      have hnJ : ¬ (a : Int) = (c : Int) := by omega
      clear hgd hac
      have KEEP := hid (fun W (hB : Below wc.heap.size wc W) => And.intro ((hB.cell (p := ⟨w.heap.size, 0, none⟩) (heap_lt HK.out.2.2.1)).trans g0) (And.intro ((hB.cell (p := ⟨p, 0, none⟩) hpl).trans p0) (And.intro ((hB.cell (p := ⟨p, 1, none⟩) hpl).trans p1) (And.intro ((hB.cell (p := ⟨bf, 0, none⟩) (by have := HBW.out.size; simp only; omega)).trans e0) ((hB.cell (p := ⟨bn, a * 4 + 3, none⟩) (by have := HBW.out.size; simp only; omega)).trans e3)))))
      go_wp2
      go_quiet (fail)
      go_wp2_with fail
      go_region_held3 (fun w' => w'.cell? ⟨w.heap.size, 0, none⟩ = some (ptr bf) ∧ w'.cell? ⟨p, 0, none⟩ = some (.int .i64 (a : Int)) ∧ w'.cell? ⟨p, 1, none⟩ = some (.int .i64 (b : Int)) ∧ w'.cell? ⟨bf, 0, none⟩ = some (.slice (some ⟨bn, 0, none⟩) s.length cap) ∧ w'.cell? ⟨bn, a * 4 + 3, none⟩ = some (.string (catB x.cs))) (first | exact KP7.out | exact KP5.out | exact KP6.out | exact KP4.out | exact KEEP.out _ (below_draw _ _) | exact KEEP.out _ (below_drewN (below_draw _ _) _) | go_keep) (first
        | (refine step_append_lies _ rfl (.tmp 52) (.tmp 69) 233 rfl 0 237 i0 _ 1 8 Tryz.underlying233 hi hz0 hz1 hz2 rfl (by decide) (.slice none 0 0) 0 [] (by simp [Act.eval, Act.put]) (World.ownsRow_nil _ _ _ _) ⟨w5.heap.size, 0, none⟩ 1 1 [.func (.func 198) #[] #[ptr w4.heap.size, ptr (w4.heap.size + 1), ptr (w4.heap.size + 2), ptr (w4.heap.size + 3)]] (by simp [Act.eval, Act.put]) rfl (cell_one_new _ _ _) (by simp [Value.oneCell']) (by decide) (by unfold maxLen; omega) (by omega) (Nat.zero_le _) (w5.heap.size + 1) (by simp) ?_
           intro g' cap' w7 ho7 hg7 hgn7 _
           have hb7 : Below w5.heap.size w5 w7 := ((Keeps.refl (fun _ => False) w5).alloc _ |>.trans (Keeps.grown hg7 (fun k e => by cases e))).below
           have hb7c : Below wc.heap.size wc w7 := HB5.out.trans (hb7.mono HB5.out.size)
           have KP7 := hid (KEEP.out w7 hb7c)
           have HB7 := hid hb7c
           have HW7 := hid (And.intro ho7 (And.intro hgn7 hb7))
           clear ho7 hg7 hgn7 hb7 hb7c)
        | (go_at_call 187
           refine (cut_any bf (a : Int) (b : Int) (x.cs.length : Int) _).mono ?_
           rintro e w5 ⟨rfl, hw5⟩
           have hb5 : Below w4.heap.size w4 w5 := by
             rw [hw5]
             exact ((((Below.refl _ _).alloc (Nat.le_refl _) _).alloc (by simp) _).alloc (by simp; omega) _).alloc (by simp; omega) _
           have HZ5 : Hid (w5.heap.size = w4.heap.size + 4) := by show _ = _; rw [hw5]; simp
           have hfn := cut_fn w4 bf a b x.cs.length
           rw [show (((w4.alloc (.cells #[ptr bf] 91)).alloc (.cells #[.int .i64 (a : Int)] 3)).alloc (.cells #[.int .i64 (b : Int)] 3)).alloc (.cells #[.int .i64 (x.cs.length : Int)] 3) = w5 from hw5.symm] at hfn
           have HFN := hid hfn
           have hb5c : Below wc.heap.size wc w5 := HB4.out.trans (hb5.mono HB4.out.size)
           have KP5 := hid (KEEP.out w5 hb5c)
           have KP6 := hid (KEEP.out _ (hb5c.alloc hb5c.size (.cells #[.func (.func 198) #[] #[ptr w4.heap.size, ptr (w4.heap.size + 1), ptr (w4.heap.size + 2), ptr (w4.heap.size + 3)]] 237)))
           have HB5 := hid hb5c
           clear hw5 hfn hb5 hb5c)
        | (go_at_call 105
           refine (CC.out _).mono ?_
           rintro e w4 ⟨rfl, hb4⟩
           have hb4c : Below wc.heap.size wc w4 := ⟨hb4.os, hb4.tape, hb4.output, hb4.size, hb4.block⟩
           have KP4 := hid (KEEP.out w4 hb4c)
           have HB4 := hid hb4c
           clear hb4 hb4c))
      all_goals
        obtain ⟨ho7, hgn7, hb7⟩ := HW7.out
        have hg5 : g' = w5.heap.size + 1 := by
          rcases hgn7 with e | e
          · cases e
          · exact e
        have hz5 := HZ5.out
        have hzc4 := HB4.out.size
        have hz1w := HBW.out.size
        have hz7 : w5.heap.size ≤ w7.heap.size := hb7.size
        have hg7l : g' < w7.heap.size := (ho7.lt g' rfl).2
        have hbw7 : Below w.heap.size w w7 := HBW.out.trans (HB7.out.mono HBW.out.size)
        have SF7 : Hid (SoFar w bf [(a, some (b, x.cs.length))] (.slice (some ⟨g', 0, none⟩) 1 cap') w7) := by
          refine ⟨fun k => w4.heap.size ≤ k ∧ k < w4.heap.size + 4, [.func (.func 198) #[] #[ptr w4.heap.size, ptr (w4.heap.size + 1), ptr (w4.heap.size + 2), ptr (w4.heap.size + 3)]], by simpa using ho7, ?_, fun k e => ⟨by omega, by omega, ?_⟩, fun k e => ?_⟩
          · exact ((FnsAt.nil w5 _ bf).snoc HFN.out).keeps (G := fun _ => False) (Keeps.of_below hb7) (fun _ _ e => e)
          · intro e1
            have e' : g' = k := by simpa [Value.ownBlock] using e1
            omega
          · have e' : g' = k := by simpa [Value.ownBlock] using e
            omega
        have HBW7 := hid hbw7
        have HG7 : Hid (wc.heap.size ≤ g' ∧ g' < w7.heap.size) := ⟨by omega, hg7l⟩
        have KP := KEEP.out w7 HB7.out
        obtain ⟨k0, k1, k2, k3, k4⟩ := KP
        have hspan := (HB7.out.block _ (heap_lt HK.out.2.2.2)).trans HK.out.2.2.2
        have sp0 := cell_of_heap hspan 0
        have sp1 := cell_of_heap hspan 1
        have sp2 := cell_of_heap hspan 2
        have sp3 := cell_of_heap hspan 3
        clear ho7 hgn7 hb7 hg5 hz5 hzc4 hz1w hz7 hg7l hbw7 hspan
        go_wp2_with (
          go_at_call 188
          refine (CI.out _ HBW7.out).mono ?_
          rintro e w3 ⟨sa, sc, rfl, hr3, hb3, hg3⟩
          have HR3 := hid (And.intro hr3 hg3)
          have SF := hid (SF7.out.below hb3)
          have hb3' : Below wc.heap.size wc w3 := HB7.out.trans (hb3.mono HB7.out.size)
          have HB3 := hid hb3'
          have hz3 := hb3'.size
          clear hr3 hb3 hg3 hb3')
        have NV : Hid ((Value.slice (some ⟨g', 0, none⟩) 1 cap').ownBlock ≠ some w.heap.size ∧ (Value.slice (some ⟨g', 0, none⟩) 1 cap').ownBlock ≠ some q ∧ (∀ gL, sa = some ⟨gL, 0, none⟩ → (Value.slice (some ⟨g', 0, none⟩) 1 cap').ownBlock ≠ some gL)) := by
          have h1 := HG7.out
          have h2 := heap_lt HK.out.2.2.1
          refine ⟨fun e => ?_, fun e => ?_, fun gL hgL e => ?_⟩
          · have e' : g' = w.heap.size := by simpa [Value.ownBlock] using e
            omega
          · have e' : g' = q := by simpa [Value.ownBlock] using e
            omega
          · have e' : g' = gL := by simpa [Value.ownBlock] using e
            have h3 := HR3.out.2 gL (by rw [hgL]; rfl)
            omega
        have VGE : Hid (∀ b, (Value.slice (some ⟨g', 0, none⟩) 1 cap').ownBlock = some b → w.heap.size ≤ b) := by
          intro k e
          have h1 := HG7.out
          have h2 := HBW.out.size
          have e' : g' = k := by simpa [Value.ownBlock] using e
          omega
        go_loopw [9, 75] (fun t9 s75 wr => ∃ (k : Nat) (s9 : Value), k ≤ L.length ∧ t9 = s9 ∧ s75 = .int .i64 (k : Int) ∧ SoFar w bf (([(a, some (b, x.cs.length))] : List Dact) ++ (L.take k).map (fun i => ((i, none) : Dact))) s9 wr ∧ Keeps (fun b => (Value.slice (some ⟨g', 0, none⟩) 1 cap').ownBlock = some b) w3 wr ∧ ((∀ b, s9.ownBlock = some b → (Value.slice (some ⟨g', 0, none⟩) 1 cap').ownBlock = some b) ∨ ∀ b, s9.ownBlock = some b → w3.heap.size ≤ b)) (fun _ t _ => leftN L.length t)
        case atStart => exact ⟨0, _, Nat.zero_le _, rfl, rfl, by simpa using SF.out, Keeps.refl _ _, .inl (fun b e => e)⟩
        case round =>
          obtain ⟨k, s9, hk, h9, rfl, hSF, hK, hob0⟩ := hrel
          replace h9 := h9.symm
          subst h9
          have hKf : wr.heap[w.heap.size]? = some (.cells #[ptr bf] 91 (0, 0)) := (hK.block _ (Nat.lt_of_lt_of_le (heap_lt HK.out.2.2.1) hz3) NV.out.1).trans ((HB3.out.block _ (heap_lt HK.out.2.2.1)).trans HK.out.2.2.1)
          have hKq : wr.heap[q]? = some (.cells #[.int .i64 (c : Int), .int .i64 (d : Int)] 37 (0, 0)) := (hK.block _ (Nat.lt_of_lt_of_le hql hz3) NV.out.2.1).trans ((HB3.out.block _ hql).trans HK.out.2.1)
          obtain ⟨C, cvs, hrow, hfns, hC, hgw⟩ := hSF
          obtain ⟨ga, cc, hv⟩ := slice_form hrow
          have hSF : SoFar w bf (([(a, some (b, x.cs.length))] : List Dact) ++ (L.take k).map (fun i => ((i, none) : Dact))) s9 wr := ⟨C, cvs, hrow, hfns, hC, hgw⟩
          have hnf : s9.ownBlock ≠ some w.heap.size := fun e => by
            rcases hob0 with h | h
            · exact NV.out.1 (h _ e)
            · have := h _ e
              have := heap_lt HK.out.2.2.1
              omega
          have hlen : (([(a, some (b, x.cs.length))] : List Dact) ++ (L.take k).map (fun i => ((i, none) : Dact))).length = ([(a, some (b, x.cs.length))] : List Dact).length + k := by simp; omega
          obtain ⟨n0, hn0⟩ : ∃ n0, (([(a, some (b, x.cs.length))] : List Dact) ++ (L.take k).map (fun i => ((i, none) : Dact))).length = n0 := ⟨_, rfl⟩
          rw [hn0] at hrow hv hlen
          have hA0 : ([(a, some (b, x.cs.length))] : List Dact).length ≤ 1 := by simp
          have hn100 : n0 < 100 := by omega
          have HLEN := hid hlen
          clear hlen
          have hzK := hK.size
          subst hv
          by_cases hlt : k < L.length
          · have hlI : (k : Int) < (L.length : Int) := by omega
            obtain ⟨hr3, hg3⟩ := HR3.out
            obtain ⟨z, hz⟩ : ∃ z, L[k]? = some z := ⟨_, List.getElem?_eq_getElem hlt⟩
            obtain ⟨gL, hgL⟩ : ∃ gL, sa = some ⟨gL, 0, none⟩ := by
              rcases row_cases hr3 with ⟨_, hl0⟩ | ⟨g, c2, hgv⟩
              · omega
              · cases hgv; exact ⟨_, rfl⟩
            subst hgL
            have cz : wr.cell? ⟨gL, k, none⟩ = some (.int .i64 (z : Int)) := by
              refine hK.cell ?_ (fun e => NV.out.2.2 gL rfl e)
              rw [hr3.cellAt k (by simp [intsV]; omega)]
              simp [intsV, hz]
            have hgl : gL < wr.heap.size := World.block_lt_of_cell? wr _ cz
            have hgne : ¬ gL = wr.heap.size := by omega
            have HF := hid hKf
            have HSF := hid (And.intro (And.intro hfns (And.intro hC hgw)) (And.intro hnf (And.intro hob0 (And.intro hK hn0))))
            have HZ := hid hz
            have hfl := heap_lt hKf
            have HROW := hid hrow
            clear hKf hKq hSF hnf hob0 hK hrow hfns hC hgw hr3 hg3 hz hn0
            go_wp2_with (at_builtin
                         refine wpList_append_own_at _ rfl _ _ 233 rfl 0 237 i0 .nilFunc 1 8 Tryz.underlying233 hi hz0 hz1 hz2 rfl (by decide) (.slice ga n0 cc) _ _ rfl ((HROW.out.alloc _).alloc _) ⟨wr.heap.size + 1, 0, none⟩ 1 1 [.func (.func 189) #[] #[ptr w.heap.size, ptr wr.heap.size]] rfl rfl (by have := cell_one_new (wr.alloc (.cells #[.int .i64 (z : Int)] 3)) (.func (.func 189) #[] #[ptr w.heap.size, ptr wr.heap.size]) 237; simpa using this) (by simp [Value.oneCell']) (by unfold maxLen; omega) (by omega) (Nat.zero_le _) ?_
                         intro v' w1 hown' hgrow _ hob
                         obtain ⟨g', cap', rfl⟩ := ownsRow_succ hown'
                         have HW := hid hown'
                         have HG := hid hgrow
                         have HOB := hid hob
                         clear hown' hgrow hob)
            obtain ⟨⟨hfns, hC, hgw⟩, hnf, hob0, hK, hn0⟩ := HSF.out
            obtain ⟨W2, hW2⟩ : ∃ W2, (wr.alloc (.cells #[.int .i64 (z : Int)] 3)).alloc (.cells #[.func (.func 189) #[] #[ptr w.heap.size, ptr wr.heap.size]] 237) = W2 := ⟨_, rfl⟩
            have hW := HW.out
            have hG := HG.out
            have hOB := HOB.out
            have hb2 : Below wr.heap.size wr W2 := by rw [← hW2]; exact ((Below.refl _ wr).alloc (Nat.le_refl _) _).alloc (by simp) _
            have hz2' : W2.heap.size = wr.heap.size + 2 := by rw [← hW2]; simp
            have xz : W2.heap[wr.heap.size]? = some (.cells #[.int .i64 (z : Int)] 3 (0, 0)) := by
              rw [← hW2, Below.heap_alloc _ _ _ (by simp)]; exact heap_alloc_new wr _
            have xf := (hb2.block _ hfl).trans HF.out
            have hvl : ∀ b, (Value.slice ga n0 cc).ownBlock = some b → b < wr.heap.size := fun b e => (HROW.out.lt b e).2
            have hob2 : (Value.slice (some ⟨g', 0, none⟩) (n0 + 1) cap').ownBlock = (Value.slice ga n0 cc).ownBlock ∨ ∃ k, (Value.slice (some ⟨g', 0, none⟩) (n0 + 1) cap').ownBlock = some k ∧ W2.heap.size ≤ k := by
              rcases hOB with e | e
              · exact .inl e
              · exact .inr ⟨_, e, by rw [← hW2]; exact Nat.le_refl _⟩
            rw [show (wr.alloc (.cells #[.int .i64 (z : Int)] 3)).alloc (.cells #[.func (.func 189) #[] #[.pointer (some ⟨w.heap.size, 0, none⟩), .pointer (some ⟨wr.heap.size, 0, none⟩)]] 237) = W2 from hW2] at hG
            have hfn : FnAt W2 (fun b => b = w.heap.size ∨ b = wr.heap.size) bf (z, none) (.func (.func 189) #[] #[ptr w.heap.size, ptr wr.heap.size]) := ⟨_, _, rfl, cell_of_heap xf 0, cell_of_heap xz 0, .inl rfl, .inr rfl⟩
            have hkG : Keeps (fun b => (Value.slice ga n0 cc).ownBlock = some b) W2 w1 := Keeps.grown hG (fun k e => .inl e)
            have htk : (([(a, some (b, x.cs.length))] : List Dact) ++ (L.take (k + 1)).map (fun i => ((i, none) : Dact))) = (([(a, some (b, x.cs.length))] : List Dact) ++ (L.take k).map (fun i => ((i, none) : Dact))) ++ [(z, none)] := by
              rw [List.take_add_one, HZ.out]
              simp
            have hpush : SoFar w bf ((([(a, some (b, x.cs.length))] : List Dact) ++ (L.take k).map (fun i => ((i, none) : Dact))) ++ [(z, none)]) (.slice (some ⟨g', 0, none⟩) (n0 + 1) cap') w1 := by
              refine SoFar.push hfns hC hgw hb2 hfn (fun b e => ?_) hG (by rw [hn0]; exact hW) hob2
              · rcases e with e | e
                · subst e
                  exact ⟨Nat.le_refl _, by omega, hnf⟩
                · subst e
                  exact ⟨by omega, by omega, fun e1 => by have := hvl _ e1; omega⟩
            have hn0k : n0 = ([(a, some (b, x.cs.length))] : List Dact).length + k := HLEN.out
            refine ⟨⟨k + 1, _, by omega, rfl, by go_num, ?_, ?_, ?_⟩, ?_⟩
            · rw [htk]; first | exact hpush | (rw [hn0k] at hpush; simpa using hpush)
            · refine (hK.trans (Keeps.of_below hb2)).trans (hkG.mono (fun b _ e => ?_))
              rcases hob0 with h | h
              · exact .inl (h b e)
              · exact .inr (h b e)
            · rcases hob2 with e | ⟨k', e, e2⟩
              · rcases hob0 with h | h
                · exact .inl (fun b e1 => h b (e ▸ e1))
                · exact .inr (fun b e1 => h b (e ▸ e1))
              · exact .inr (fun b e1 => by
                  have e3 : g' = b := by simpa [Value.ownBlock] using e1
                  have e4 : g' = k' := by simpa [Value.ownBlock] using e
                  omega)
            · show L.length - ((k : Int) + 1).toNat < L.length - ((k : Int)).toNat
              omega
          · obtain rfl : k = L.length := by omega
            have hlI : ¬ (L.length : Int) < (L.length : Int) := by omega
            have hBwr : Below w.heap.size w wr := ((Keeps.of_below (F := fun _ => False) (HBW.out.trans (HB3.out.mono HBW.out.size))).trans (hK.mono (fun b _ e => .inr (VGE.out b e)))).below
            rw [List.take_length] at hn0 hSF hfns
            have HBR := hid hBwr
            have HF := hid hKf
            have HSF := hid (And.intro hSF (And.intro (And.intro hfns (And.intro hC hgw)) (And.intro hnf hn0)))
            have hfl := heap_lt hKf
            have HROW := hid hrow
            have f0 := cell_of_heap hKf 0
            have w0' := cell_of_heap hKq 0
            have w1' := cell_of_heap hKq 1
            have hqr := heap_lt hKq
            clear hKf hKq hSF hnf hob0 hK hrow hfns hC hgw hn0 hBwr
            cases hyt : y.t with
            | false =>
              have hT : AC = ([(a, some (b, x.cs.length))] : List Dact) ++ L.map (fun i => ((i, none) : Dact)) := by rw [← HAC.out, hxt, hyt]; simp
              have HT := hid hT
              clear hT
              go_wp2
              go_ret
              obtain ⟨hSF, _, _, hn0⟩ := HSF.out
              rw [HT.out]
              refine ⟨ga, cc, ?_, ?_, HBR.out⟩
              · first | (rw [hn0]; done) | (rw [hn0]; rfl)
              · rw [hn0]; exact hSF
            | true =>
              have hT : AC = (([(a, some (b, x.cs.length))] : List Dact) ++ L.map (fun i => ((i, none) : Dact))) ++ [(c, some (0, d))] := by rw [← HAC.out, hxt, hyt]; simp
              have HT := hid hT
              clear hT
              go_wp2_with first
                | (go_at_call 187
                   refine (cut_any bf (c : Int) 0 (d : Int) _).mono ?_
                   rintro e w5 ⟨rfl, hw5⟩
                   have hb5 : Below wr.heap.size wr w5 := by
                     rw [hw5]
                     exact ((((Below.refl _ _).alloc (Nat.le_refl _) _).alloc (by simp) _).alloc (by simp; omega) _).alloc (by simp; omega) _
                   have HZ5 : Hid (w5.heap.size = wr.heap.size + 4) := by show _ = _; rw [hw5]; simp
                   have hfn := cut_fn wr bf c 0 d
                   rw [show (((wr.alloc (.cells #[ptr bf] 91)).alloc (.cells #[.int .i64 (c : Int)] 3)).alloc (.cells #[.int .i64 ((0 : Nat) : Int)] 3)).alloc (.cells #[.int .i64 (d : Int)] 3) = w5 from hw5.symm] at hfn
                   have HFN := hid hfn
                   have HB5 := hid hb5
                   have HROW5 := hid ((Keeps.of_below (F := fun _ => False) hb5).row HROW.out (fun _ _ e => e))
                   clear hw5 hfn hb5)
                | (at_builtin
                   go_loud (refine wpList_append_own_at _ rfl _ _ 233 rfl 0 237 i0 .nilFunc 1 8 Tryz.underlying233 hi hz0 hz1 hz2 rfl (by decide) (.slice ga n0 cc) _ _ rfl (HROW5.out.alloc _) ⟨w5.heap.size, 0, none⟩ 1 1 [.func (.func 198) #[] #[ptr wr.heap.size, ptr (wr.heap.size + 1), ptr (wr.heap.size + 2), ptr (wr.heap.size + 3)]] rfl rfl (cell_one_new _ _ _) (by simp [Value.oneCell']) (by unfold maxLen; omega) (by omega) (Nat.zero_le _) ?_)
                   intro v' w1 hown' hgrow _ hob
                   obtain ⟨g', cap', rfl⟩ := ownsRow_succ hown'
                   have HW := hid hown'
                   have HG := hid hgrow
                   have HOB := hid hob
                   clear hown' hgrow hob)
              go_ret
              obtain ⟨_, ⟨hfns, hC, hgw⟩, hnf, hn0⟩ := HSF.out
              rw [HT.out]
              have hW := HW.out
              have hG := HG.out
              have hOB := HOB.out
              have hz5 := HZ5.out
              have hvl : ∀ b, (Value.slice ga n0 cc).ownBlock = some b → b < wr.heap.size := fun b e => (HROW.out.lt b e).2
              have hob2 : (Value.slice (some ⟨g', 0, none⟩) (n0 + 1) cap').ownBlock = (Value.slice ga n0 cc).ownBlock ∨ ∃ k, (Value.slice (some ⟨g', 0, none⟩) (n0 + 1) cap').ownBlock = some k ∧ (w5.alloc (.cells #[.func (.func 198) #[] #[ptr wr.heap.size, ptr (wr.heap.size + 1), ptr (wr.heap.size + 2), ptr (wr.heap.size + 3)]] 237)).heap.size ≤ k := by
                rcases hOB with e | e
                · exact .inl e
                · exact .inr ⟨_, e, Nat.le_refl _⟩
              have hb6 : Below wr.heap.size wr (w5.alloc (.cells #[.func (.func 198) #[] #[ptr wr.heap.size, ptr (wr.heap.size + 1), ptr (wr.heap.size + 2), ptr (wr.heap.size + 3)]] 237)) := HB5.out.alloc HB5.out.size _
              have hpush : SoFar w bf ((([(a, some (b, x.cs.length))] : List Dact) ++ L.map (fun i => ((i, none) : Dact))) ++ [(c, some (0, d))]) (.slice (some ⟨g', 0, none⟩) (n0 + 1) cap') w1 := by
                refine SoFar.push hfns hC hgw hb6 (HFN.out.keeps (G := fun _ => False) ((Keeps.refl _ w5).alloc _) (fun _ _ e => e)) (fun b e => ?_) hG (by rw [hn0]; exact hW) hob2
                have hzr := HBR.out.size
                exact ⟨by omega, by simp; omega, fun e1 => by have := hvl _ e1; omega⟩
              refine ⟨some ⟨g', 0, none⟩, cap', ?_, ?_, ?_⟩
              · rw [List.length_append, hn0]; rfl
              · rw [List.length_append, hn0]; exact hpush
              · exact (((Keeps.of_below (F := fun _ => False) HBR.out).trans (Keeps.of_below hb6)).trans (Keeps.grown hG (fun k e => .inl (.inr (hgw k e))))).below
end
end Go.Proofs.YtabogkonklplcaaGreatDoor

namespace Go.Proofs.YtabogkonklplcaaGreatDoor
open Go.RowKit
set_option linter.unusedSimpArgs false
set_option linter.unusedVariables false
def MvLater (M : Nat) (G : Nat → Prop) (wr : World) (v : Value) (f : Mvf) : Prop := ∃ m W, MoveOk m W v f ∧ M ≤ m ∧ Keeps (fun b => b < m) W wr ∧ (∀ b, G b → b < m ∨ W.heap.size ≤ b)
theorem MvLater.now {M : Nat} {G : Nat → Prop} {wr : World} {v : Value} {f : Mvf} (h : MvLater M G wr v f) : MoveOk M wr v f := by
  obtain ⟨m, W, h1, h2, h3, _⟩ := h
  exact (h1.keeps h3 (fun b hb e => by omega)).down h2
theorem MvLater.step {M : Nat} {G G' : Nat → Prop} {wr w' : World} {v : Value} {f : Mvf} (h : MvLater M G wr v f) (hk : Keeps G wr w') (hG : ∀ b, G' b → G b ∨ wr.heap.size ≤ b) : MvLater M G' w' v f := by
  obtain ⟨m, W, h1, h2, h3, h4⟩ := h
  have hz := h3.size
  refine ⟨m, W, h1, h2, h3.trans (hk.mono (fun b _ e => h4 b e)), fun b e => ?_⟩
  rcases hG b e with e | e
  · exact h4 b e
  · exact .inr (by omega)
structure Moved (M : Nat) (F : Nat → Prop) (w1 : World) (bf : Nat) (acts : List Dact) (s' : List Nd) (fs : List Mvf) (k : Nat) (mval : Value) (wr : World) (sk : List Nd) (fs1 fs2 : List Mvf) (vs : List Value) (Fk : Nat → Prop) : Prop where
  row : wr.ownsRow 0 110 1 mval k vs
  lv : vs.length = k
  lf : fs1.length = k
  mv : ∀ (i : Nat) (v : Value) (f : Mvf), vs[i]? = some v → fs1[i]? = some f → MvLater M (fun b => Fk b ∨ mval.ownBlock = some b) wr v f
  chs : Chgs sk (acts.drop k) s' fs2
  eq : fs = fs1 ++ fs2
  wf : WF sk
  pf : PFor wr Fk bf sk
  sub : ∀ b, Fk b → F b ∨ M ≤ b
  lt : ∀ b, Fk b → b < wr.heap.size
  ge : ∀ b, mval.ownBlock = some b → M ≤ b
  ap : ∀ b, mval.ownBlock = some b → ¬ Fk b
  keeps : Keeps F w1 wr
theorem Moved.next {M : Nat} {F : Nat → Prop} {w1 wr w2 w3 : World} {bf : Nat} {acts : List Dact} {s' s2 : List Nd} {fs : List Mvf} {k : Nat} {mval mval' mv : Value} {sk : List Nd} {fs1 fs2 : List Mvf} {vs : List Value} {Fk : Nat → Prop} {f : Mvf} {m : Nat}
    (h : Moved M F w1 bf acts s' fs k mval wr sk fs1 (f :: fs2) vs Fk) (hM : w1.heap.size = M) (hc : Chgs s2 (acts.drop (k + 1)) s' fs2) (wf2 : WF s2)
    (hk : Keeps Fk wr w2) (h1 : wr.heap.size ≤ m) (h2 : m ≤ w2.heap.size) (hf : PFor w2 (fun b => Fk b ∨ (wr.heap.size ≤ b ∧ b < m)) bf s2) (hm : MoveOk m w2 mv f)
    (hg : (w2.alloc (.cells #[mv] 110)).grownBy w3 mval.ownBlock) (ho : w3.ownsRow 0 110 1 mval' (k + 1) (vs ++ [mv])) (hob : mval'.ownBlock = mval.ownBlock ∨ ∃ j, mval'.ownBlock = some j ∧ w2.heap.size < j) :
    Moved M F w1 bf acts s' fs (k + 1) mval' w3 s2 (fs1 ++ [f]) fs2 (vs ++ [mv]) (fun b => Fk b ∨ (wr.heap.size ≤ b ∧ b < m)) := by
  have hkz := h.keeps.size
  have hz2 := hk.size
  have hkA : Keeps (fun b => mval.ownBlock = some b) w2 w3 := ((Keeps.refl _ w2).alloc _).trans (Keeps.grown hg (fun j e => .inl (.inl e)))
  have hz3 := hkA.size
  have hmb : ∀ b, mval.ownBlock = some b → b < wr.heap.size := fun b e => (h.row.lt b e).2
  refine ⟨ho, by simp [h.lv], by simp [h.lf], ?_, hc, by rw [h.eq]; simp, wf2, ?_, ?_, ?_, ?_, ?_, ?_⟩
  · have old : ∀ v g, MvLater M (fun b => Fk b ∨ mval.ownBlock = some b) wr v g → MvLater M (fun b => (Fk b ∨ (wr.heap.size ≤ b ∧ b < m)) ∨ mval'.ownBlock = some b) w3 v g := by
      intro v g hv
      have e1 := hv.step (G' := fun b => Fk b ∨ mval.ownBlock = some b ∨ wr.heap.size ≤ b) (hk.mono (fun b _ e => .inl e)) (fun b e => by
        rcases e with e | e | e
        · exact .inl (.inl e)
        · exact .inl (.inr e)
        · exact .inr e)
      refine e1.step (hkA.mono (fun b _ e => .inr (.inl e))) (fun b e => ?_)
      rcases e with (e | e) | e
      · exact .inl (.inl e)
      · exact .inl (.inr (.inr e.1))
      · rcases hob with e2 | ⟨j, e2, e3⟩
        · exact .inl (.inr (.inl (e2 ▸ e)))
        · rw [e2] at e
          cases e
          exact .inr (by omega)
    have new : MvLater M (fun b => (Fk b ∨ (wr.heap.size ≤ b ∧ b < m)) ∨ mval'.ownBlock = some b) w3 mv f := by
      refine ⟨m, w2, hm, by omega, hkA.mono (fun b _ e => by have := hmb b e; omega), fun b e => ?_⟩
      rcases e with (e | e) | e
      · have := h.lt b e; exact .inl (by omega)
      · exact .inl e.2
      · rcases hob with e2 | ⟨j, e2, e3⟩
        · have := hmb b (e2 ▸ e); exact .inl (by omega)
        · rw [e2] at e
          cases e
          exact .inr (by omega)
    intro i v g hi hgi
    by_cases hlt : i < vs.length
    · rw [List.getElem?_append_left hlt] at hi
      rw [List.getElem?_append_left (by rw [h.lf, ← h.lv]; exact hlt)] at hgi
      exact old v g (h.mv i v g hi hgi)
    · rw [List.getElem?_append_right (by omega)] at hi
      rw [List.getElem?_append_right (by rw [h.lf, ← h.lv]; omega), h.lf, ← h.lv] at hgi
      obtain ⟨j, hj⟩ : ∃ j, j = i - vs.length := ⟨_, rfl⟩
      rw [← hj] at hi hgi
      cases j with
      | zero => simp at hi hgi; subst hi; subst hgi; exact new
      | succ j => simp at hi
  · exact hf.keeps hkA (fun b e e2 => by
      rcases e with e | e
      · exact h.ap b e2 e
      · have := hmb b e2; omega)
  · rintro b (e | e)
    · exact h.sub b e
    · exact .inr (by omega)
  · rintro b (e | e)
    · have := h.lt b e; omega
    · omega
  · intro b e
    rcases hob with e2 | ⟨j, e2, e3⟩
    · exact h.ge b (e2 ▸ e)
    · rw [e2] at e
      cases e
      omega
  · intro b e
    rcases hob with e2 | ⟨j, e2, e3⟩
    · rintro (e4 | e4)
      · exact h.ap b (e2 ▸ e) e4
      · have := hmb b (e2 ▸ e); omega
    · rw [e2] at e
      cases e
      rintro (e4 | e4)
      · have := h.lt _ e4; omega
      · omega
  · refine (h.keeps.trans (hk.mono (fun b _ e => ?_))).trans (hkA.mono (fun b _ e => ?_))
    · rcases h.sub b e with e | e
      · exact .inl e
      · exact .inr (by omega)
    · exact .inr (by have := h.ge b e; omega)
theorem SoFar.from {w w0 wr : World} {bf : Nat} {acts : List Dact} {v : Value} (h : SoFar w0 bf acts v wr) (hw : w.heap.size ≤ w0.heap.size) : SoFar w bf acts v wr := by
  obtain ⟨C, cvs, h1, h2, h3, h4⟩ := h
  exact ⟨C, cvs, h1, h2, fun b e => ⟨Nat.le_trans hw (h3 b e).1, (h3 b e).2⟩, fun b e => Nat.le_trans hw (h4 b e)⟩
theorem SoFar.store {w wr : World} {bf p : Nat} {acts : List Dact} {v : Value} {w0 : World} (h : SoFar w0 bf acts v wr) (hp : p < w0.heap.size ∨ wr.heap.size ≤ p) (u : Value) (k : Nat) : SoFar w0 bf acts v (wr.setCell ⟨p, k, none⟩ u) := by
  obtain ⟨C, cvs, h1, h2, h3, h4⟩ := h
  have hk : Keeps (fun b => b = p) wr (wr.setCell ⟨p, k, none⟩ u) := (Keeps.refl (fun b => b = p) wr).setCell (p := ⟨p, k, none⟩) (.inl rfl) u
  refine ⟨C, cvs, hk.row h1 (fun b e e2 => ?_), h2.keeps hk (fun b e e2 => ?_), fun b e => ⟨(h3 b e).1, by simpa using (h3 b e).2.1, (h3 b e).2.2⟩, h4⟩
  · subst e2
    have := h4 _ e
    have := (h1.lt _ e).2
    omega
  · subst e2
    have := h3 _ e
    omega
def JointDel (w : World) (bf : Nat) (acts : List Dact) (jp jq : Int) (s7 s8 : Value) (wc : World) : Prop :=
  ∃ (p : Nat) (ga : Option Addr) (c : Nat), s7 = .pointer (some ⟨p, 0, none⟩) ∧ s8 = .slice ga acts.length c ∧ wc.heap[p]? = some (.cells #[.int .i64 jp, .int .i64 jq] 37 (0, 0)) ∧ SoFar w bf acts (.slice ga acts.length c) wc ∧ Below w.heap.size w wc ∧ wc.heap[w.heap.size + 1]? = some (.cells #[.int .i64 0, .int .i64 0] 37 (0, 0)) ∧ w.heap.size + 2 ≤ p
theorem jd_set {w X w2 W0 : World} {bf p c : Nat} {ga : Option Addr} {acts : List Dact} (jp jq : Int) (hsf : SoFar X bf acts (.slice ga acts.length c) w2) (hp : w2.heap[p]? = some (.cells #[.int .i64 0, .int .i64 0] 37 (0, 0))) (hpX : p < X.heap.size) (hwX : w.heap.size ≤ X.heap.size) (hB : Below W0.heap.size W0 w2) (hb0 : Below w.heap.size w W0) (y1 : W0.heap[w.heap.size + 1]? = some (.cells #[.int .i64 0, .int .i64 0] 37 (0, 0))) (hpw : w.heap.size + 2 ≤ p) :
    JointDel w bf acts jp jq (.pointer (some ⟨p, 0, none⟩)) (.slice ga acts.length c) ((w2.setCell ⟨p, 0, none⟩ (.int .i64 jp)).setCell ⟨p, 1, none⟩ (.int .i64 jq)) := by
  have a1 := heap_setCell_same w2 _ 0 _ _ (.int .i64 jp) hp
  have a2 := heap_setCell_same _ _ 1 _ _ (.int .i64 jq) a1
  have hbw := hb0.trans (hB.mono hb0.size)
  refine ⟨p, ga, c, rfl, rfl, by rw [a2]; rfl, ((hsf.store (w := w) (.inl hpX) _ 0).store (w := w) (.inl hpX) _ 1).from hwX, ?_, ?_, hpw⟩
  · exact (((Keeps.of_below (F := fun _ => False) hbw).setCell (p := ⟨p, 0, none⟩) (.inr (by simp only; omega)) _).setCell (p := ⟨p, 1, none⟩) (.inr (by simp only; omega)) _).below
  · rw [Below.heap_setCell _ _ _ _ (by simp only; omega), Below.heap_setCell _ _ _ _ (by simp only; omega)]
    exact (hB.block _ (heap_lt y1)).trans y1
theorem jd_new {w X w2 W0 : World} {bf c : Nat} {ga : Option Addr} {acts : List Dact} (jp jq : Int) (hsf : SoFar X bf acts (.slice ga acts.length c) w2) (hwX : w.heap.size ≤ X.heap.size) (hB : Below W0.heap.size W0 w2) (hb0 : Below w.heap.size w W0) (y1 : W0.heap[w.heap.size + 1]? = some (.cells #[.int .i64 0, .int .i64 0] 37 (0, 0))) :
    JointDel w bf acts jp jq (.pointer (some ⟨w2.heap.size, 0, none⟩)) (.slice ga acts.length c) (w2.alloc (.cells #[.int .i64 jp, .int .i64 jq] 37)) := by
  have hbw := hb0.trans (hB.mono hb0.size)
  have hl := heap_lt y1
  have hz := hB.size
  have hbA : Below w2.heap.size w2 (w2.alloc (.cells #[.int .i64 jp, .int .i64 jq] 37)) := (Below.refl _ w2).alloc (Nat.le_refl _) _
  refine ⟨w2.heap.size, ga, c, rfl, rfl, heap_alloc_new w2 _, (hsf.below hbA).from hwX, hbw.alloc hbw.size _, ?_, by omega⟩
  rw [Below.heap_alloc _ _ _ (by omega)]
  exact (hB.block _ hl).trans y1
section
variable {s s' : List Nd} {F : Nat → Prop} {bf : Nat} {w : World}
set_option maxRecDepth 20000 in
set_option maxHeartbeats 4000000 in
theorem tdelete_go (hTb : ∀ W, Keeps F w W → Tabs W) (hD : PFor w F bf s) (wf : WF s) (z : Sp) (jp jq : Int) (acts : List Dact) (fs : List Mvf) (hc : Chgs s acts s' fs) (hl : acts.length ≤ 50)
    (hJ : ∀ W, Below w.heap.size w W → Calls Tryz.prog 162 #[ptr bf, spV z] W fun e w' => e = .returned (.agg #[.int .i64 jp, .int .i64 jq]) ∧ Below W.heap.size W w')
    (hA : ∀ W, Below w.heap.size w W → Calls Tryz.prog 163 #[ptr bf, spV z] W (DelPost W bf acts)) :
    Calls Tryz.prog 114 #[ptr bf, spV z] w fun e w' => ∃ mv, e = .returned (.tuple #[.agg #[.int .i64 jp, .int .i64 jq], mv, .nilIface]) ∧ Keeps F w w' ∧ PFor w' (grow F w) bf s' ∧ MoveOk w.heap.size w' mv (compF fs) := by
  obtain ⟨i0, hi, hz0, hz1, hz2⟩ := info_parts Tryz.info110
  have CJ := hid hJ
  have CA := hid hA
  have HD := hid (And.intro hD.narrow (And.intro wf (And.intro hc hTb)))
  clear hJ hA hD wf hc hTb
  go_enter Tryz.func114, Tryz.ntmps114
  go_wp2
  obtain ⟨W0, hW0⟩ : ∃ W0, (w.alloc (.cells #[.int .i64 z.a, .int .i64 z.b, .int .i64 z.c, .int .i64 z.d] 79)).alloc (.cells #[.int .i64 0, .int .i64 0] 37) = W0 := ⟨_, rfl⟩
  have hsz0 : W0.heap.size = w.heap.size + 2 := by rw [← hW0]; simp
  have hb0 : Below w.heap.size w W0 := by rw [← hW0]; exact ((Below.refl _ w).alloc (Nat.le_refl _) _).alloc (by simp) _
  have y0 : W0.heap[w.heap.size]? = some (.cells #[.int .i64 z.a, .int .i64 z.b, .int .i64 z.c, .int .i64 z.d] 79 (0, 0)) := by
    rw [← hW0, Below.heap_alloc _ _ _ (by simp), heap_alloc_new]
  have y1 : W0.heap[w.heap.size + 1]? = some (.cells #[.int .i64 0, .int .i64 0] 37 (0, 0)) := by
    have := heap_alloc_new (w.alloc (.cells #[.int .i64 z.a, .int .i64 z.b, .int .i64 z.c, .int .i64 z.d] 79)) (.cells #[.int .i64 0, .int .i64 0] 37)
    rw [World.size_alloc] at this
    rw [← hW0]; exact this
  rw [hW0]
  have s0 : W0.cell? ⟨w.heap.size, 0, none⟩ = some (.int .i64 z.a) := cell_of_heap y0 0
  have s1 : W0.cell? ⟨w.heap.size, 1, none⟩ = some (.int .i64 z.b) := cell_of_heap y0 1
  have s2 : W0.cell? ⟨w.heap.size, 2, none⟩ = some (.int .i64 z.c) := cell_of_heap y0 2
  have s3 : W0.cell? ⟨w.heap.size, 3, none⟩ = some (.int .i64 z.d) := cell_of_heap y0 3
  have hl0 := heap_lt y0
  have KEEP := hid (fun W (hB : Below W0.heap.size W0 W) => And.intro ((hB.cell (p := ⟨w.heap.size, 0, none⟩) hl0).trans s0) (And.intro ((hB.cell (p := ⟨w.heap.size, 1, none⟩) hl0).trans s1) (And.intro ((hB.cell (p := ⟨w.heap.size, 2, none⟩) hl0).trans s2) ((hB.cell (p := ⟨w.heap.size, 3, none⟩) hl0).trans s3))))
  have HY := hid (And.intro y0 (And.intro y1 (And.intro hb0 hsz0)))
  have HBA := hid ((Below.refl W0.heap.size W0).drew.alloc (Nat.le_refl _) (.cells #[.int .i64 0, .int .i64 0] 37))
  have hne0 : ¬ w.heap.size = W0.heap.size := by omega
  clear y0 y1 hb0 hW0 hsz0
  go_cut [7, 8] from 14 to 19 (fun s7 s8 wc => JointDel w bf acts jp jq s7 s8 wc)
  case first =>
    go_region_held3 (fun w' => w'.cell? ⟨w.heap.size, 0, none⟩ = some (.int .i64 z.a) ∧ w'.cell? ⟨w.heap.size, 1, none⟩ = some (.int .i64 z.b) ∧ w'.cell? ⟨w.heap.size, 2, none⟩ = some (.int .i64 z.c) ∧ w'.cell? ⟨w.heap.size, 3, none⟩ = some (.int .i64 z.d)) (first | exact KP2.out | exact KP1.out | exact KEEP.out _ (Below.refl _ W0).drew | exact KEEP.out _ HBA.out | exact KP1B.out | exact KP2B.out | exact KP2C.out | exact KPS.out _ hne1 | exact KPS.out _ hne0 | go_keep) (first
      | (go_at_call 163
         refine (CA.out _ ?_).mono ?_
         · first | exact HBW1.out | exact HBW1.out.alloc HBW1.out.size _
         rintro e w2 ⟨ga, cc, rfl, hsf, hb2⟩
         have hb2c : Below W0.heap.size W0 w2 := by
           first | exact HB1.out.trans (hb2.mono HB1.out.size) | exact (HB1.out.alloc HB1.out.size _).trans (hb2.mono (Nat.le_trans HB1.out.size (by simp)))
         have KP2 := hid (KEEP.out w2 hb2c)
         have KP2B := hid (KEEP.out _ (hb2c.alloc hb2c.size (.cells #[.int .i64 0, .int .i64 0] 37)))
         have KP2C := hid (KEEP.out _ (hb2c.alloc hb2c.size (.cells #[.int .i64 jp, .int .i64 jq] 37)))
         have KPS := hid (fun (p : Nat) (hp : ¬ w.heap.size = p) => 
           have hkS : Keeps (fun b => b = p) w2 ((w2.setCell ⟨p, 0, none⟩ (.int .i64 jp)).setCell ⟨p, 1, none⟩ (.int .i64 jq)) := ((Keeps.refl (fun b => b = p) w2).setCell (p := ⟨p, 0, none⟩) (.inl rfl) _).setCell (p := ⟨p, 1, none⟩) (.inl rfl) _
           And.intro (hkS.cell KP2.out.1 hp) (And.intro (hkS.cell KP2.out.2.1 hp) (And.intro (hkS.cell KP2.out.2.2.1 hp) (hkS.cell KP2.out.2.2.2 hp))))
         have hne2 : ¬ w.heap.size = w2.heap.size := by have := hb2c.size; omega
         have HB2 := hid hb2c
         have HSF := hid hsf
         first
           | (have hpb := (hb2.block _ (heap_lt HPA.out)).trans HPA.out
              have pb0 := cell_of_heap hpb 0
              have pb1 := cell_of_heap hpb 1
              have pf0 := frozen_of_heap hpb 0
              have pf1 := frozen_of_heap hpb 1
              have HPB := hid hpb
              clear hpb)
           | (have hpb := (hb2.block w1.heap.size (by simp)).trans (heap_alloc_new w1 (.cells #[.int .i64 0, .int .i64 0] 37))
              have pb0 := cell_of_heap hpb 0
              have pb1 := cell_of_heap hpb 1
              have pf0 := frozen_of_heap hpb 0
              have pf1 := frozen_of_heap hpb 1
              have HPB := hid hpb
              clear hpb)
           | skip
         clear hsf hb2 hb2c)
      | (go_at_call 162
         refine (CJ.out _ ?_).mono ?_
         · first | exact HY.out.2.2.1.drew | exact (HY.out.2.2.1.drew).alloc (HY.out.2.2.1.size) _ 
         rintro e w1 ⟨rfl, hb1⟩
         have hb1c : Below W0.heap.size W0 w1 := by
           first | exact ⟨hb1.os, hb1.tape, hb1.output, hb1.size, hb1.block⟩ | exact HBA.out.trans (hb1.mono HBA.out.size)
         have KP1 := hid (KEEP.out w1 hb1c)
         have KP1B := hid (KEEP.out _ (hb1c.alloc hb1c.size (.cells #[.int .i64 0, .int .i64 0] 37)))
         have hne1 : ¬ w.heap.size = w1.heap.size := by have := hb1c.size; omega
         have HB1 := hid hb1c
         have HBW1 := hid (HY.out.2.2.1.trans (hb1c.mono HY.out.2.2.1.size))
         first
           | (have hpa := (hb1.block W0.heap.size (by simp)).trans (heap_alloc_new W0.drew (.cells #[.int .i64 0, .int .i64 0] 37))
              have HPA := hid hpa
              clear hpa)
           | skip
         clear hb1 hb1c))
    all_goals
      go_wp2_with fail
      go_meet
      case rel =>
        obtain ⟨_, y1, hb0, hsz0⟩ := HY.out
        have h1 := HB1.out.size
        first
          | exact jd_new jp jq HSF.out (by first | omega | (simp; omega)) HB2.out hb0 y1
          | exact jd_set jp jq HSF.out HPB.out (by first | (simp; done) | (have := heap_lt HPA.out; omega)) (by first | omega | (simp; omega)) HB2.out hb0 y1 (by omega)
  case rest =>
    obtain ⟨p, ga, cc, rfl, rfl, hp, hsf, hbc, hr, hpw⟩ := hcut
    have r0 := cell_of_heap hr 0
    have r1 := cell_of_heap hr 1
    have rf0 := frozen_of_heap hr 0
    have rf1 := frozen_of_heap hr 1
    have p0 := cell_of_heap hp 0
    have p1 := cell_of_heap hp 1
    obtain ⟨hpf, wf, hcs, hTb⟩ := HD.out
    obtain ⟨F0, hF0⟩ : ∃ F0 : Nat → Prop, F0 = fun b => F b ∧ b < w.heap.size := ⟨_, rfl⟩
    rw [← hF0] at hpf
    have hF0l : ∀ b, F0 b → b < w.heap.size := fun b e => by rw [hF0] at e; exact e.2
    have hF0F : ∀ b, F0 b → F b := fun b e => by rw [hF0] at e; exact e.1
    have hzc := hbc.size
    have M0 : Hid (Moved wc.heap.size F0 wc bf acts s' fs 0 (.slice none 0 0) wc s [] fs [] F0) := ⟨World.ownsRow_nil _ _ _ _, rfl, rfl, fun i v f h => by simp at h, hcs, rfl, wf, hpf.below hbc, fun b e => .inl e, fun b e => by have := hF0l b e; omega, fun b e => (by cases e), fun b e => (by cases e), Keeps.refl _ _⟩
    obtain ⟨C, cvs, hrow, hfns, hC, hgw⟩ := hsf
    have HSF := hid (And.intro hrow (And.intro hfns (And.intro hC hgw)))
    have HF := hid (And.intro hF0l (And.intro hF0F hTb))
    have HBC := hid hbc
    have HPR := hid (And.intro hp hr)
    have hpl := heap_lt hp
    have hrl := heap_lt hr
    clear hpf wf hcs hTb hF0 hF0l hF0F hrow hfns hC hgw hbc hp hr HD
    go_wp2
    go_loopw [9, 22] (fun t9 t22 wr => ∃ (k : Nat) (mval : Value) (sk : List Nd) (fs1 fs2 : List Mvf) (vs : List Value) (Fk : Nat → Prop), k ≤ acts.length ∧ t9 = mval ∧ t22 = .int .i64 (k : Int) ∧ Moved wc.heap.size F0 wc bf acts s' fs k mval wr sk fs1 fs2 vs Fk) (fun _ t _ => leftN acts.length t)
    case atStart => exact ⟨0, _, _, _, _, _, _, Nat.zero_le _, rfl, rfl, M0.out⟩
    case round =>
      obtain ⟨k, mval, sk, fs1, fs2, vs, Fk, hk, h9, rfl, hMv⟩ := hrel
      replace h9 := h9.symm
      subst h9
      obtain ⟨hF0l, hF0F, hTb⟩ := HF.out
      obtain ⟨hrow, hfns, hC, hgw⟩ := HSF.out
      obtain ⟨ga2, c2, hv⟩ := slice_form hMv.row
      subst hv
      have hzw := hMv.keeps.size
      have hkw : Keeps F w wr := (Keeps.of_below HBC.out).trans (hMv.keeps.mono (fun b _ e => .inl (hF0F b e)))
      by_cases hlt : k < acts.length
      · have hlI : (k : Int) < (acts.length : Int) := by omega
        obtain ⟨act, hact⟩ : ∃ act, acts[k]? = some act := ⟨_, List.getElem?_eq_getElem hlt⟩
        obtain ⟨cv, hcv⟩ : ∃ cv, cvs[k]? = some cv := ⟨_, List.getElem?_eq_getElem (by rw [hfns.1]; exact hlt)⟩
        have hfn := (hfns.2 k act cv hact hcv).keeps hMv.keeps (fun b e e2 => by have := hF0l b e2; have := (hC b e).1; omega)
        have hdr : acts.drop k = act :: acts.drop (k + 1) := by
          obtain ⟨h1, rfl⟩ := List.getElem?_eq_some_iff.1 hact
          exact List.drop_eq_getElem_cons h1
        have hch := hMv.chs
        rw [hdr] at hch
        obtain ⟨s1, f, fs3, rfl, hc1, hc2⟩ : ∃ s1 f fs3, fs2 = f :: fs3 ∧ Chg sk act s1 f ∧ Chgs s1 (acts.drop (k + 1)) s' fs3 := by
          cases hch with
          | cons h1 h2 => exact ⟨_, _, _, rfl, h1, h2⟩
        obtain ⟨gf, lb, rfl, hent, hrun⟩ := fn_run hfn hMv.pf hc1 hMv.wf (hTb wr hkw)
        obtain ⟨gR, hgR⟩ : ∃ gR, ga = some ⟨gR, 0, none⟩ := by
          rcases row_cases hrow with ⟨_, hl0⟩ | ⟨g, c3, hgv⟩
          · omega
          · cases hgv; exact ⟨_, rfl⟩
        subst hgR
        have cz : wr.cell? ⟨gR, k, none⟩ = some (.func (.func gf) #[] lb) := by
          refine hMv.keeps.cell ?_ (fun e => by have h1 := hF0l gR e; have h2 := hgw gR rfl; omega)
          rw [hrow.cellAt k (by omega)]
          exact hcv
        have CM := hid hrun
        have HMV := hid hMv
        have HC2 := hid (And.intro hc2 (hc1.wf hMv.wf))
        clear hrun hMv hc1 hc2 hch hdr hfn hrow hfns hC hgw hF0l hF0F hTb hkw hact hcv
        go_wp2_with first
          | (go_at_fn gf
             refine CM.out.mono ?_
             clear CM
             rintro e w2 ⟨mv, m, rfl, hk2, h1, h2, hf2, hm⟩
             have hm' := hm
             obtain ⟨gm, lm, rfl, _, _⟩ := hm'.runs
             have hrow2 := hk2.row HMV.out.row (fun b e => HMV.out.ap b e)
             have HROW2 := hid hrow2
             have HT := hid (And.intro hk2 (And.intro h1 (And.intro h2 (And.intro hf2 hm))))
             clear hk2 h1 h2 hf2 hm hm' hrow2)
          | (at_builtin
             refine wpList_append_own_at _ rfl _ _ 235 rfl 0 110 i0 .nilFunc 1 8 Tryz.underlying235 hi hz0 hz1 hz2 rfl (by decide) (.slice ga2 k c2) _ _ rfl (HROW2.out.alloc _) ⟨w2.heap.size, 0, none⟩ 1 1 [.func (.func gm) #[] lm] rfl rfl (cell_one_new _ _ _) (by simp [Value.oneCell']) (by unfold maxLen; omega) (by omega) (Nat.zero_le _) ?_
             intro v' w3 hown' hgrow _ hob
             obtain ⟨g', cap', rfl⟩ := ownsRow_succ hown'
             have HW := hid hown'
             have HG := hid hgrow
             have HOB := hid hob
             clear hown' hgrow hob)
        obtain ⟨hk2, h1, h2, hf2, hm⟩ := HT.out
        have hob' : (Value.slice (some ⟨g', 0, none⟩) (k + 1) cap').ownBlock = (Value.slice ga2 k c2).ownBlock ∨ ∃ j, (Value.slice (some ⟨g', 0, none⟩) (k + 1) cap').ownBlock = some j ∧ w2.heap.size < j := by
          rcases HOB.out with e | e
          · exact .inl e
          · exact .inr ⟨_, e, by simp⟩
        have hN := Moved.next HMV.out rfl HC2.out.1 HC2.out.2 hk2 h1 h2 hf2 hm HG.out HW.out hob'
        refine ⟨⟨k + 1, _, _, _, _, _, _, by omega, rfl, by simp, hN⟩, ?_⟩
        show acts.length - ((k : Int) + 1).toNat < acts.length - ((k : Int)).toNat
        omega
      · have hkl : k = acts.length := by omega
        have hch := hMv.chs
        rw [hkl, List.drop_length] at hch
        obtain ⟨rfl, rfl⟩ : sk = s' ∧ fs2 = [] := by
          cases hch with
          | nil => exact ⟨rfl, rfl⟩
        have hfe : fs = fs1 := by rw [hMv.eq]; simp
        subst hfe
        have hlI : ¬ (k : Int) < (acts.length : Int) := by omega
        have hfl : fs.length = acts.length := by rw [hMv.lf, hkl]
        have CT := hid (fun W (hB : Below wr.heap.size wr W) => by
          have hkB := Keeps.of_below (F := fun _ => False) hB
          have hr2 := hkB.row hMv.row (fun _ _ e => e)
          have hz2 := hB.size
          have := inTurn_at (w := W) (m := w.heap.size + 2) (fs := fs) (vs := vs) (ga := ga2) (c := c2) (by rw [hMv.lf]; exact hr2) (fun b e => by have := hMv.ge b (by rw [hMv.lf] at e; exact e); omega) ⟨by rw [hMv.lv, hMv.lf], fun i v f h1 h2 => (((hMv.mv i v f h1 h2).now.keeps hkB (fun _ _ e => e)).down (by omega))⟩ (M0.out.chs.near M0.out.wf) (by omega) (by omega)
          rw [hfl] at this
          exact this)
        have q0 := hMv.keeps.cell p0 (fun e => by have h1 := hF0l p e; omega)
        have q1 := hMv.keeps.cell p1 (fun e => by have h1 := hF0l p e; omega)
        have hr4 := (hMv.keeps.block (w.heap.size + 1) hrl (fun e => by have h1 := hF0l _ e; omega)).trans HPR.out.2
        have HR4 := hid hr4
        have rg0 := cell_of_heap hr4 0
        have rg1 := cell_of_heap hr4 1
        have rh0 := frozen_of_heap hr4 0
        have rh1 := frozen_of_heap hr4 1
        have HMV := hid (And.intro hMv (And.intro hF0l (And.intro hF0F hkw)))
        have hne : ¬ p = w.heap.size + 1 := by omega
        clear hMv hch hrow hfns hC hgw hF0l hF0F hTb hr4 hkw M0 CJ CA HSF HY HBA KEEP
        clear hlt hfl
        go_wp2
        go_region_held3 (fun w' => w'.cell? ⟨p, 0, none⟩ = some (.int .i64 jp) ∧ w'.cell? ⟨p, 1, none⟩ = some (.int .i64 jq)) (first | exact KP2.out | exact KP2S.out | go_keep) ((
          go_at_call 164
          refine (CT.out _ ?_).mono ?_
          · first | exact (Below.refl _ wr).drew | exact (Below.refl _ wr)
          rintro e w2 ⟨bs, rfl, hb2, hm2⟩
          have hb2c : Below wr.heap.size wr w2 := ⟨hb2.os, hb2.tape, hb2.output, hb2.size, hb2.block⟩
          have KP2 := hid (And.intro ((hb2c.cell (p := ⟨p, 0, none⟩) (by simp only; omega)).trans q0) ((hb2c.cell (p := ⟨p, 1, none⟩) (by simp only; omega)).trans q1))
          have KP2S : Hid (((w2.setCell ⟨w.heap.size + 1, 0, none⟩ (.int .i64 jp)).setCell ⟨w.heap.size + 1, 1, none⟩ (.int .i64 jq)).cell? ⟨p, 0, none⟩ = some (.int .i64 jp) ∧ ((w2.setCell ⟨w.heap.size + 1, 0, none⟩ (.int .i64 jp)).setCell ⟨w.heap.size + 1, 1, none⟩ (.int .i64 jq)).cell? ⟨p, 1, none⟩ = some (.int .i64 jq)) := by
            have hkS : Keeps (fun b => b = w.heap.size + 1) w2 ((w2.setCell ⟨w.heap.size + 1, 0, none⟩ (.int .i64 jp)).setCell ⟨w.heap.size + 1, 1, none⟩ (.int .i64 jq)) := ((Keeps.refl (fun b => b = w.heap.size + 1) w2).setCell (p := ⟨w.heap.size + 1, 0, none⟩) (.inl rfl) _).setCell (p := ⟨w.heap.size + 1, 1, none⟩) (.inl rfl) _
            exact ⟨hkS.cell KP2.out.1 hne, hkS.cell KP2.out.2 hne⟩
          have hr5 := (hb2c.block _ (by omega)).trans HR4.out
          have rx0 := cell_of_heap hr5 0
          have rx1 := cell_of_heap hr5 1
          have ry0 := frozen_of_heap hr5 0
          have ry1 := frozen_of_heap hr5 1
          have HM2 := hid (And.intro hb2c (And.intro hm2 hr5))
          clear hb2 hm2 hb2c hr5))
        all_goals
          go_wp2
          obtain ⟨hMv, hF0l, hF0F, hkw⟩ := HMV.out
          obtain ⟨hb2, hm2, hr5⟩ := HM2.out
          have a1 := heap_setCell_same w2 _ 0 _ _ (.int .i64 jp) hr5
          have a2 := heap_setCell_same _ _ 1 _ _ (.int .i64 jq) a1
          have b0 : ((w2.setCell ⟨w.heap.size + 1, 0, none⟩ (.int .i64 jp)).setCell ⟨w.heap.size + 1, 1, none⟩ (.int .i64 jq)).cell? ⟨w.heap.size + 1, 0, none⟩ = some (.int .i64 jp) := cell_of_heap a2 0
          have b1 : ((w2.setCell ⟨w.heap.size + 1, 0, none⟩ (.int .i64 jp)).setCell ⟨w.heap.size + 1, 1, none⟩ (.int .i64 jq)).cell? ⟨w.heap.size + 1, 1, none⟩ = some (.int .i64 jq) := cell_of_heap a2 1
          try simp only [Exit.inBlock, Exit.then]
          refine bodyPost_ret (v := .tuple #[.agg #[.int .i64 jp, .int .i64 jq], .func (.func 190) #[] bs, .nilIface]) (by simp [results, Tryz.results114, go_sem, b0, b1]) rfl ?_
          have hz2 := hb2.size
          have hkS : Keeps (fun b => b = w.heap.size + 1) w2 ((w2.setCell ⟨w.heap.size + 1, 0, none⟩ (.int .i64 jp)).setCell ⟨w.heap.size + 1, 1, none⟩ (.int .i64 jq)) := ((Keeps.refl (fun b => b = w.heap.size + 1) w2).setCell (p := ⟨w.heap.size + 1, 0, none⟩) (.inl rfl) _).setCell (p := ⟨w.heap.size + 1, 1, none⟩) (.inl rfl) _
          refine ⟨_, rfl, ?_, ?_, ?_⟩
          · exact (hkw.trans (Keeps.of_below hb2)).trans (hkS.mono (fun b _ e => .inr (by omega)))
          · exact ((hMv.pf.below hb2).keeps hkS (fun b e e2 => by
              subst e2
              rcases hMv.sub _ e with e | e
              · have := hF0l _ e; omega
              · omega)).wider (fun b e => by
              rcases hMv.sub b e with e | e
              · exact .inl (hF0F b e)
              · exact .inr (by omega))
          · exact (hm2.keeps hkS (fun b h1 e => by omega)).down (by omega)
end
end Go.Proofs.YtabogkonklplcaaGreatDoor

namespace Go.Proofs.YtabogkonklplcaaGreatDoor
open Go.RowKit
set_option linter.unusedSimpArgs false
set_option linter.unusedVariables false
section
variable {w : World} {F : Nat → Prop} {bx bf bl : Nat} {sv : Value} {s s' : List Nd} {rs : List Sp}
def TDel (jp jq : Int) (f : Mvf) (F : Nat → Prop) (w : World) (bf : Nat) (s' : List Nd) (e : Ending) (w' : World) : Prop := ∃ mv, e = .returned (.tuple #[.agg #[.int .i64 jp, .int .i64 jq], mv, .nilIface]) ∧ Keeps F w w' ∧ PFor w' (grow F w) bf s' ∧ MoveOk w.heap.size w' mv f
theorem ld_before {W w2 : World} {mv : Value} {f : Mvf} (hg : GG w) (hD : PDocAt w F bx bf bl sv ⟨s, rs⟩) (hB : Below w.heap.size w W) (hk : Keeps (fun b => inner F bx bl sv b ∧ b < w.heap.size) W w2) (hf : PFor w2 (grow (fun b => inner F bx bl sv b ∧ b < w.heap.size) W) bf s') : Keeps F w w2 ∧ PDocAt w2 (grow F w) bx bf bl sv ⟨s', rs⟩ := by
  have hz := hB.size
  have h := (before_go (hg.below hB) (hD.below hB) (hk.mono (fun b _ e => e.1)) hk.size (m := w2.heap.size) (hf.narrow.wider (fun b e => by
    rcases e with ⟨e | e, e2⟩
    · exact .inl e.1
    · exact .inr ⟨e, e2⟩))).1
  refine ⟨(Keeps.of_below hB).trans (h.1.mono (fun b _ e => .inl e)), h.2.widen (fun b e => ?_)⟩
  rcases e with e | e
  · exact .inl e
  · exact .inr (by omega)
def LDel (w : World) (F : Nat → Prop) (bx bf bl : Nat) (sv : Value) (s' : List Nd) (rs : List Sp) (f : Mvf) (jp jq : Int) (s7 s8 : Value) (wc : World) : Prop :=
  ∃ (p : Nat) (mv : Value) (m : Nat), s7 = .pointer (some ⟨p, 0, none⟩) ∧ s8 = mv ∧ wc.heap[p]? = some (.cells #[.int .i64 jp, .int .i64 jq] 37 (0, 0)) ∧ Keeps F w wc ∧ PDocAt wc (grow F w) bx bf bl sv ⟨s', rs⟩ ∧ MoveOk m wc mv f ∧ w.heap.size ≤ m ∧ w.heap.size ≤ p
theorem ld_new {W w2 : World} {mv : Value} {f : Mvf} {jp jq : Int} (hg : GG w) (hD : PDocAt w F bx bf bl sv ⟨s, rs⟩) (hB : Below w.heap.size w W) (hk : Keeps (fun b => inner F bx bl sv b ∧ b < w.heap.size) W w2) (hf : PFor w2 (grow (fun b => inner F bx bl sv b ∧ b < w.heap.size) W) bf s') (hm : MoveOk W.heap.size w2 mv f) :
    LDel w F bx bf bl sv s' rs f jp jq (.pointer (some ⟨w2.heap.size, 0, none⟩)) mv (w2.alloc (.cells #[.int .i64 jp, .int .i64 jq] 37)) := by
  have hz := hB.size
  have hz2 := hk.size
  have hbA : Below w2.heap.size w2 (w2.alloc (.cells #[.int .i64 jp, .int .i64 jq] 37)) := (Below.refl _ w2).alloc (Nat.le_refl _) _
  obtain ⟨h1, h2⟩ := ld_before (mv := mv) (f := f) hg hD hB hk hf
  exact ⟨_, mv, W.heap.size, rfl, rfl, heap_alloc_new w2 _, h1.trans (Keeps.of_below hbA), h2.below hbA, hm.keeps (G := fun _ => False) (Keeps.of_below hbA) (fun _ _ e => e), hz, by omega⟩
theorem ld_set {W0 w2 : World} {mv : Value} {f : Mvf} {jp jq : Int} (hg : GG w) (hD : PDocAt w F bx bf bl sv ⟨s, rs⟩) (hB0 : Below w.heap.size w W0) (hk : Keeps (fun b => inner F bx bl sv b ∧ b < w.heap.size) (W0.alloc (.cells #[.int .i64 0, .int .i64 0] 37)) w2) (hf : PFor w2 (grow (fun b => inner F bx bl sv b ∧ b < w.heap.size) (W0.alloc (.cells #[.int .i64 0, .int .i64 0] 37))) bf s') (hm : MoveOk (W0.alloc (.cells #[.int .i64 0, .int .i64 0] 37)).heap.size w2 mv f) :
    LDel w F bx bf bl sv s' rs f jp jq (.pointer (some ⟨W0.heap.size, 0, none⟩)) mv ((w2.setCell ⟨W0.heap.size, 0, none⟩ (.int .i64 jp)).setCell ⟨W0.heap.size, 1, none⟩ (.int .i64 jq)) := by
  have hz := hB0.size
  have hz2 := hk.size
  have hzA : (W0.alloc (.cells #[.int .i64 0, .int .i64 0] 37)).heap.size = W0.heap.size + 1 := by simp
  have hp := (hk.block W0.heap.size (by simp) (fun e => by omega)).trans (heap_alloc_new W0 _)
  have a1 := heap_setCell_same w2 _ 0 _ _ (.int .i64 jp) hp
  have a2 := heap_setCell_same _ _ 1 _ _ (.int .i64 jq) a1
  have hkS : Keeps (fun b => b = W0.heap.size) w2 ((w2.setCell ⟨W0.heap.size, 0, none⟩ (.int .i64 jp)).setCell ⟨W0.heap.size, 1, none⟩ (.int .i64 jq)) := ((Keeps.refl (fun b => b = W0.heap.size) w2).setCell (p := ⟨W0.heap.size, 0, none⟩) (.inl rfl) _).setCell (p := ⟨W0.heap.size, 1, none⟩) (.inl rfl) _
  have hk3 : Keeps (fun b => inner F bx bl sv b ∧ b < w.heap.size) W0 ((w2.setCell ⟨W0.heap.size, 0, none⟩ (.int .i64 jp)).setCell ⟨W0.heap.size, 1, none⟩ (.int .i64 jq)) := (((Keeps.refl _ W0).alloc _).trans (hk.mono (fun b _ e => .inl e))).trans (hkS.mono (fun b _ e => .inr (by omega)))
  have hf3 := hf.keeps hkS (fun b e e2 => by
    rcases e with e | e <;> omega)
  obtain ⟨h1, h2⟩ := ld_before (mv := mv) (f := f) hg hD hB0 hk3 (hf3.wider (fun b e => by
    rcases e with e | e
    · exact .inl e
    · exact .inr (by omega)))
  refine ⟨_, mv, _, rfl, rfl, by rw [a2]; rfl, h1, h2, hm.keeps hkS (fun b h1 e => by omega), by omega, hz⟩
set_option maxRecDepth 20000 in
set_option maxHeartbeats 2000000 in
theorem ldelete_ok (hg : GG w) (hD : PDocAt w F bx bf bl sv ⟨s, rs⟩) (hsm : Small rs) (h6 : rs.length ≤ 6) (r : Nat) (x : Sp) (hx : rs[r]? = some x) (jp jq : Int) (f : Mvf)
    (hT : ∀ W F', Below w.heap.size w W → PFor W F' bf s → (∀ b, F' b → ¬ Hold b) → Calls Tryz.prog 114 #[ptr bf, spV x] W (TDel jp jq f F' W bf s')) :
    Calls Tryz.prog 70 #[ptr bl, .int .i64 (r : Int)] w fun e w' => e = .returned .nilIface ∧ Keeps F w w' ∧ PLies w' (grow F w) bx ⟨s', (rs.map (mvSp f)).set r ⟨jp, jq, jp, jq⟩⟩ := by
  have C := hid (lspan_ok hD r x hx)
  have c0 : w.cell? ⟨bl, 0, none⟩ = some (ptr bf) := cell_of_heap hD.list 0
  have hll := heap_lt hD.list
  have hr : r < rs.length := (List.getElem?_eq_some_iff.1 hx).1
  obtain ⟨gS, cS, hsv, hgl, -⟩ := hD.spanCells hx
  have HSV := hid hsv
  have CT := hid (fun W (hB : Below w.heap.size w W) => hT W (fun b => inner F bx bl sv b ∧ b < w.heap.size) hB (hD.nodes.narrow.below hB) (fun b e => e.1.2.2.2.2))
  have HT := hid (And.intro hg (And.intro hD (And.intro hsm hx)))
  clear hD hx hT hg hsm hsv
  go_enter Tryz.func70, Tryz.ntmps70
  go_wp2_with (
       go_at_call 69
       refine C.out.mono ?_
       rintro e w1 ⟨rfl, hb1⟩
       clear C
       obtain ⟨W0, hW0⟩ : ∃ W0, w1.alloc (.cells #[.int .i64 x.a, .int .i64 x.b, .int .i64 x.c, .int .i64 x.d] 79) = W0 := ⟨_, rfl⟩
       have HW0 := hid hW0
       have hb0 : Below w.heap.size w W0 := by rw [← hW0]; exact hb1.alloc hb1.size _
       have hs0 : W0.heap[w1.heap.size]? = some (.cells #[.int .i64 x.a, .int .i64 x.b, .int .i64 x.c, .int .i64 x.d] 79 (0, 0)) := by rw [← hW0]; exact heap_alloc_new w1 _
       have hz1 := hb1.size
       have HB0 := hid hb0
       have HS0 := hid hs0
       clear hb1 hW0 hb0 hs0)
  rw [HW0.out]
  clear HW0
  have d0 := (HB0.out.cell (p := ⟨bl, 0, none⟩) hll).trans c0
  have s0 := cell_of_heap HS0.out 0
  have s1 := cell_of_heap HS0.out 1
  have s2 := cell_of_heap HS0.out 2
  have s3 := cell_of_heap HS0.out 3
  have hl0 := heap_lt HS0.out
  have hz0 := HB0.out.size
  have hne : ¬ bl = W0.heap.size := by omega
  have hne1 : ¬ w1.heap.size = W0.heap.size := by omega
  have KEEP := hid (fun (W : World) (hK : Keeps (fun b => inner F bx bl sv b ∧ b < w.heap.size) W0 W) => And.intro (hK.cell d0 (fun e => e.1.2.2.1 rfl)) (And.intro (hK.cell s0 (fun e => Nat.not_lt.2 hz1 e.2)) (And.intro (hK.cell s1 (fun e => Nat.not_lt.2 hz1 e.2)) (And.intro (hK.cell s2 (fun e => Nat.not_lt.2 hz1 e.2)) (hK.cell s3 (fun e => Nat.not_lt.2 hz1 e.2))))))
  go_cut [6, 7, 8] from 18 to 27 (fun s6 s7 s8 wc => s6 = .nilIface ∧ LDel w F bx bf bl sv s' rs f jp jq s7 s8 wc)
  case first =>
    go_region_held3 (fun w' => w'.cell? ⟨bl, 0, none⟩ = some (ptr bf) ∧ w'.cell? ⟨w1.heap.size, 0, none⟩ = some (.int .i64 x.a) ∧ w'.cell? ⟨w1.heap.size, 1, none⟩ = some (.int .i64 x.b) ∧ w'.cell? ⟨w1.heap.size, 2, none⟩ = some (.int .i64 x.c) ∧ w'.cell? ⟨w1.heap.size, 3, none⟩ = some (.int .i64 x.d)) (first | exact KEEP.out _ HK2.out | exact KEEP.out _ (HK2.out.alloc _) | exact KEEP.out _ ((Keeps.refl _ W0).alloc _) | exact KEEP.out _ ((HK2.out.setCell (p := ⟨W0.heap.size, 0, none⟩) (.inr (Nat.le_refl _)) _).setCell (p := ⟨W0.heap.size, 1, none⟩) (.inr (Nat.le_refl _)) _) | go_keep) ((
         go_at_call 114
         refine (CT.out _ ?_).mono ?_
         · first | exact HB0.out.drew | exact HB0.out.drew.alloc HB0.out.size _
         rintro e w2 ⟨mv, rfl, hk2, hf2, hm2⟩
         obtain ⟨gm, lm, rfl, _, _⟩ := hm2.runs
         first
           | (have HK2 := hid (show Keeps (fun b => inner F bx bl sv b ∧ b < w.heap.size) W0 w2 from ⟨hk2.os, hk2.tape, hk2.output, hk2.size, hk2.block⟩))
           | (have HK2 := hid (show Keeps (fun b => inner F bx bl sv b ∧ b < w.heap.size) W0 w2 from (((Keeps.refl _ W0).alloc (.cells #[.int .i64 0, .int .i64 0] 37)).trans ((⟨hk2.os, hk2.tape, hk2.output, hk2.size, hk2.block⟩ : Keeps (fun b => inner F bx bl sv b ∧ b < w.heap.size) (W0.alloc (.cells #[.int .i64 0, .int .i64 0] 37)) w2).mono (fun b _ e => .inl e)))))
         first
           | (have hpb := (hk2.block W0.heap.size (by simp) (fun e => Nat.not_lt.2 hz0 e.2)).trans (heap_alloc_new W0.drew (.cells #[.int .i64 0, .int .i64 0] 37))
              have pb0 := cell_of_heap hpb 0
              have pb1 := cell_of_heap hpb 1
              have pf0 := frozen_of_heap hpb 0
              have pf1 := frozen_of_heap hpb 1
              clear hpb)
           | skip
         have HT2 := hid (And.intro hk2 (And.intro hf2 hm2))
         clear hk2 hf2 hm2))
    all_goals
      go_wp2_with fail
      go_meet
      case rel =>
        obtain ⟨hg, hD, _⟩ := HT.out
        obtain ⟨hk2, hf2, hm2⟩ := HT2.out
        first
          | exact ⟨rfl, ld_new (W := W0.drew) hg hD HB0.out.drew hk2 hf2 hm2⟩
          | exact ⟨rfl, ld_set (W0 := W0.drew) hg hD HB0.out.drew hk2 hf2 hm2⟩
  case rest =>
    obtain ⟨rfl, p, mv, m, rfl, h8, hp, hkc, hdc, hmc, hwm, hwp⟩ := hcut
    replace h8 := h8.symm
    subst h8
    obtain ⟨gm, lm, rfl, _, _⟩ := hmc.runs
    have hsv := HSV.out
    subst hsv
    obtain ⟨hg, hD, hsm, hx⟩ := HT.out
    have CF := hid (lfollow_go hdc (fun b e => by have := (hD.spans.lt b e).2; omega) hmc hsm h6)
    have hpl := heap_lt hp
    have hpg : ¬ p = gS := by omega
    have l1 := cell_of_heap hdc.list 0
    have l2 := cell_of_heap hdc.list 1
    have HP := hid (And.intro hp (And.intro hkc hdc))
    clear hp hkc hdc hmc hg hD hsm hx
    go_wp2_with (
      go_at_call 110
      refine CF.out.mono ?_
      rintro e w3 ⟨rfl, hk3, hd3⟩
      clear CF
      have hx' : (rs.map (mvSp f))[r]? = some (mvSp f x) := by rw [List.getElem?_map, HT.out.2.2.2]; rfl
      have hp3 := (hk3.block p hpl (fun e => hpg (Option.some.inj (show some gS = some p from e)).symm)).trans HP.out.1
      have p0 := cell_of_heap hp3 0
      have p1 := cell_of_heap hp3 1
      have k0 := cell_of_heap hd3.list 0
      have k1 := cell_of_heap hd3.list 1
      obtain ⟨q0, q1, q2, q3, qf⟩ := hd3.spanAt hx' rfl
      have qf0 := qf (r * 4)
      have qf1 := qf (r * 4 + 1)
      have qf2 := qf (r * 4 + 2)
      have qf3 := qf (r * 4 + 3)
      have H3 := hid (And.intro hk3 (And.intro hd3 hx'))
      clear hk3 hd3 hx' hp3 qf)
    go_region
    go_wp2
    go_ret
    obtain ⟨hp, hkc, hdc⟩ := HP.out
    obtain ⟨hk3, hd3, hx'⟩ := H3.out
    have hFg : F gS := (HT.out.2.1.apart gS rfl).1
    have hk : Keeps F w w3 := hkc.trans (hk3.mono (fun b _ e => .inl (HT.out.2.1.apart b e).1))
    have hd := (hd3.setAll (g := gS) (c := cS) (by simp) hx' jp jq jp jq).below (below_drewN (Below.refl _ _) 1)
    exact ⟨rfl, (((((hk.setCell (p := ⟨gS, r * 4, none⟩) (.inl hFg) _).setCell (p := ⟨gS, r * 4 + 1, none⟩) (.inl hFg) _).setCell (p := ⟨gS, r * 4 + 2, none⟩) (.inl hFg) _).setCell (p := ⟨gS, r * 4 + 3, none⟩) (.inl hFg) _).drew), _, _, _, hd⟩
end
set_option maxRecDepth 20000 in
set_option maxHeartbeats 1000000 in
theorem mdelete_ok {w : World} {F : Nat → Prop} {bx : Nat} {s s' : List Nd} {rs : List Sp} (hg : GG w) (hP : PLies w F bx ⟨s, rs⟩) (hsm : Small rs) (h6 : rs.length ≤ 6) (r : Nat) (x : Sp) (hx : rs[r]? = some x) (jp jq : Int) (f : Mvf)
    (hT : ∀ W F' bf, Below w.heap.size w W → PFor W F' bf s → (∀ W', Keeps F' W W' → Tabs W') → Calls Tryz.prog 114 #[ptr bf, spV x] W (TDel jp jq f F' W bf s')) :
    Calls Tryz.prog 37 #[ptr bx, .int .i64 (r : Int)] w (PLPost F w bx ⟨s', (rs.map (mvSp f)).set r ⟨jp, jq, jp, jq⟩⟩ (errV 0 0)) := by
  have HG := hid hg
  obtain ⟨bf, bl, sv, hD⟩ := hP
  have C := hid (ldelete_ok hg hD hsm h6 r x hx jp jq f (fun W F' hB hP hh => hT W F' bf hB hP (fun W' hk => ((hg.below hB).keeps hk (fun b h1 h2 => hh b h2 h1)).2)))
  have c1 : w.cell? ⟨bx, 1, none⟩ = some (ptr bl) := cell_of_heap hD.doc 1
  clear hD hg hx hsm hT
  go_enter Tryz.func37, Tryz.ntmps37
  go_wp2_with (first
      | (go_at_call 70; refine C.out.mono ?_; rintro e w1 ⟨rfl, hk1, hp1⟩
         have H1 := hid (And.intro hk1 hp1)
         clear hk1 hp1)
      | (go_at_call 46; refine (fault_nil _).mono ?_; rintro e w2 ⟨rfl, hb2⟩
         have H2 := hid (And.intro (H1.out.1.trans (Keeps.of_below hb2)) (H1.out.2.keeps (G := fun _ => False) (Keeps.of_below hb2) (fun _ _ e => e)))
         clear hb2))
  go_ret
  exact ⟨by simp [errV], H2.out.1, H2.out.2⟩
end Go.Proofs.YtabogkonklplcaaGreatDoor
