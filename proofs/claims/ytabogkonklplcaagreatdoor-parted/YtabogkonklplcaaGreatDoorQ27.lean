import Derived.Test.YtabogkonklplcaaGreatDoorQ24
import Derived.Test.YtabogkonklplcaaGreatDoorQ16
import Derived.Test.YtabogkonklplcaaGreatDoorQ19

namespace Go.Proofs.YtabogkonklplcaaGreatDoor
open Go.RowKit Go.Lib
set_option linter.unusedSimpArgs false
set_option linter.unusedVariables false
theorem scmp_ways (l l2 : List Nat) (k k2 g1 c1 g2 c2 : Nat) (w : World) (h1 : ∀ (j x : Nat), (l ++ [k])[j]? = some x → w.cell? ⟨g1, j, none⟩ = some (.int .i64 x)) (h2 : ∀ (j x : Nat), (l2 ++ [k2])[j]? = some x → w.cell? ⟨g2, j, none⟩ = some (.int .i64 x)) (hl : l.length ≤ 40) (hm : l2.length ≤ 40) :
    Calls Tryz.prog 152 #[.slice (some ⟨g1, 0, none⟩) (l.length + 1) c1, .slice (some ⟨g2, 0, none⟩) (l2.length + 1) c2] w fun e w' => e = .returned (.int .i64 (lexC (l ++ [k]) (l2 ++ [k2]))) ∧ w' = w := by
  have h := scmp_any (l ++ [k]) (l2 ++ [k2]) g1 c1 g2 c2 w h1 h2 (by simp; unfold lots; omega) (by simp; unfold lots; omega)
  rw [show (l ++ [k]).length = l.length + 1 by simp, show (l2 ++ [k2]).length = l2.length + 1 by simp] at h
  exact h
theorem ttop_at {w : World} {F : Nat → Prop} {bf bn cap : Nat} {pn : List PN} {s : List Nd} (wf : WF s) (hD : PForAt w F bf bn cap pn s) {n t : Nat} (ht : IsTop s n t) (hn : n < s.length) :
    Calls Tryz.prog 99 #[ptr bf, .int .i64 n] w fun e w' => e = .returned (.int .i64 t) ∧ w' = w := by
  refine (ttop_any wf hD n hn).mono ?_
  rintro e w' ⟨⟨t', rfl, ht'⟩, rfl⟩
  exact ⟨by rw [ht.one ht'], rfl⟩
section
variable {w : World} {F : Nat → Prop} {bf : Nat} {s : List Nd}
set_option maxHeartbeats 1000000 in
theorem tcompare_a (bf : Nat) (a0 a1 b0 b1 : Int) (u : Value)
    (hA : ∀ W, Below w.heap.size w W → Calls Tryz.prog 98 #[ptr bf, .agg #[.int .i64 a0, .int .i64 a1]] W fun e w' => e = .returned (.iface 145 u) ∧ Below W.heap.size W w') :
    Calls Tryz.prog 62 #[ptr bf, .agg #[.int .i64 a0, .int .i64 a1], .agg #[.int .i64 b0, .int .i64 b1]] w fun e w' => e = .returned (.tuple #[.int .i64 0, .iface 145 u]) ∧ Below w.heap.size w w' := by
  have CA := hid (hA _ (ptwo_below w a0 a1 b0 b1))
  have hz := (ptwo_below w a0 a1 b0 b1).size
  have HT := hid (ptwo_below w a0 a1 b0 b1)
  clear hA
  go_enter Tryz.func62, Tryz.ntmps62
  go_wp2_with (go_at_call 98; refine CA.out.mono ?_; rintro e w1 ⟨rfl, hb1⟩)
  go_ret2
  exact ⟨rfl, HT.out.trans (hb1.mono HT.out.size)⟩
set_option maxRecDepth 20000 in
set_option maxHeartbeats 1000000 in
theorem tcompare_roots (wf : WF s) (hD : PFor w F bf s) (n k n2 k2 : Nat) (tf : Nat → Nat) (htf : ∀ m, m < s.length → IsTop s m (tf m)) (hn : n < s.length) (hn2 : n2 < s.length) (hne : tf n ≠ tf n2)
    (hA : ∀ W, Below w.heap.size w W → Calls Tryz.prog 98 #[ptr bf, .agg #[.int .i64 (n : Int), .int .i64 (k : Int)]] W fun e w' => e = .returned .nilIface ∧ Below W.heap.size W w')
    (hB : ∀ W, Below w.heap.size w W → Calls Tryz.prog 98 #[ptr bf, .agg #[.int .i64 (n2 : Int), .int .i64 (k2 : Int)]] W fun e w' => e = .returned .nilIface ∧ Below W.heap.size W w') :
    Calls Tryz.prog 62 #[ptr bf, .agg #[.int .i64 (n : Int), .int .i64 (k : Int)], .agg #[.int .i64 (n2 : Int), .int .i64 (k2 : Int)]] w fun e w' => e = .returned (.tuple #[.int .i64 0, refusalV n2 9]) ∧ Below w.heap.size w w' := by
  obtain ⟨bn, cap, pn, hD⟩ := hD
  have CA := hid (hA _ (ptwo_below w n k n2 k2))
  have CB := hid hB
  have HT := hid (ptwo_below w n k n2 k2)
  have CT := hid (fun W (hb : Below w.heap.size w W) m (hm : m < s.length) q => ttop_at (w := W.drewN q) wf (hD.below (below_drewN hb q)) (htf m hm) hm)
  have hneI : ¬ (tf n : Int) = (tf n2 : Int) := fun e => hne (by omega)
  clear hA hB hD wf htf
  go_enter Tryz.func62, Tryz.ntmps62
  go_wp2_with (first
    | (go_at_call 98; refine CA.out.mono ?_; clear CA; rintro e w1 ⟨rfl, hb1⟩
       obtain ⟨q1, q2⟩ := ptwo_cells hb1
       have p0 : w1.cell? ⟨w.heap.size, 0, none⟩ = some (.int .i64 (n : Int)) := cell_of_heap q1 0
       have p1 : w1.cell? ⟨w.heap.size, 1, none⟩ = some (.int .i64 (k : Int)) := cell_of_heap q1 1
       have p2 : w1.cell? ⟨w.heap.size + 1, 0, none⟩ = some (.int .i64 (n2 : Int)) := cell_of_heap q2 0
       have p3 : w1.cell? ⟨w.heap.size + 1, 1, none⟩ = some (.int .i64 (k2 : Int)) := cell_of_heap q2 1
       have HB1 := hid (HT.out.trans (hb1.mono HT.out.size))
       have H1 := hid hb1
       clear hb1 q1 q2)
    | (go_at_call 98; refine (CB.out _ HB1.out).mono ?_; clear CB; rintro e w2 ⟨rfl, hb2⟩
       obtain ⟨q1, q2⟩ := ptwo_cells (H1.out.trans (hb2.mono H1.out.size))
       have r0 : w2.cell? ⟨w.heap.size, 0, none⟩ = some (.int .i64 (n : Int)) := cell_of_heap q1 0
       have r1 : w2.cell? ⟨w.heap.size, 1, none⟩ = some (.int .i64 (k : Int)) := cell_of_heap q1 1
       have r2 : w2.cell? ⟨w.heap.size + 1, 0, none⟩ = some (.int .i64 (n2 : Int)) := cell_of_heap q2 0
       have r3 : w2.cell? ⟨w.heap.size + 1, 1, none⟩ = some (.int .i64 (k2 : Int)) := cell_of_heap q2 1
       have HB2 := hid (HB1.out.trans (hb2.mono HB1.out.size))
       clear hb2 q1 q2 p0 p1 p2 p3 HB1))
  go_quiet ((go_at_call 99; exact Calls.quiet_of_same (CT.out w2 HB2.out _ (by first | exact hn | exact hn2) _)))
  have hbne : ((tf n : Int) != (tf n2 : Int)) = true := by simpa using hneI
  rw [hbne]
  go_wp2
  go_region
  go_wp2
  go_ret2
  exact ⟨rfl, below_drewN HB2.out _⟩
set_option maxRecDepth 20000 in
set_option maxHeartbeats 1000000 in
theorem torder_any {bn cap : Nat} {pn : List PN} (wf : WF s) (hD : PForAt w F bf bn cap pn s) (n k n2 k2 : Nat) (hn : n < s.length) (hn2 : n2 < s.length) :
    Calls Tryz.prog 100 #[ptr bf, .agg #[.int .i64 (n : Int), .int .i64 (k : Int)], .agg #[.int .i64 (n2 : Int), .int .i64 (k2 : Int)]] w fun e w' => ∃ t t2 l l2, Way s t n l ∧ IsTop s n t ∧ Way s t2 n2 l2 ∧ IsTop s n2 t2 ∧ e = .returned (.int .i64 (lexC (l ++ [k]) (l2 ++ [k2]))) ∧ Below w.heap.size w w' := by
  have HB2 : Hid (Below w.heap.size w ((w.alloc (.cells #[.int .i64 (n : Int), .int .i64 (k : Int)] 37)).alloc (.cells #[.int .i64 (n2 : Int), .int .i64 (k2 : Int)] 37))) := ptwo_below w n k n2 k2
  obtain ⟨q1, q2⟩ := ptwo_cells (Below.refl (ptwo w n k n2 k2).heap.size (ptwo w n k n2 k2))
  have q1' : ((w.alloc (.cells #[.int .i64 (n : Int), .int .i64 (k : Int)] 37)).alloc (.cells #[.int .i64 (n2 : Int), .int .i64 (k2 : Int)] 37)).heap[w.heap.size]? = _ := q1
  have q2' : ((w.alloc (.cells #[.int .i64 (n : Int), .int .i64 (k : Int)] 37)).alloc (.cells #[.int .i64 (n2 : Int), .int .i64 (k2 : Int)] 37)).heap[w.heap.size + 1]? = _ := q2
  clear q1 q2
  obtain ⟨w2, hw2⟩ : ∃ w2, (w.alloc (.cells #[.int .i64 (n : Int), .int .i64 (k : Int)] 37)).alloc (.cells #[.int .i64 (n2 : Int), .int .i64 (k2 : Int)] 37) = w2 := ⟨_, rfl⟩
  rw [hw2] at HB2 q1' q2'
  have r0 : w2.cell? ⟨w.heap.size, 0, none⟩ = some (.int .i64 (n : Int)) := cell_of_heap q1' 0
  have r1 : w2.cell? ⟨w.heap.size, 1, none⟩ = some (.int .i64 (k : Int)) := cell_of_heap q1' 1
  have r2 : w2.cell? ⟨w.heap.size + 1, 0, none⟩ = some (.int .i64 (n2 : Int)) := cell_of_heap q2' 0
  have r3 : w2.cell? ⟨w.heap.size + 1, 1, none⟩ = some (.int .i64 (k2 : Int)) := cell_of_heap q2' 1
  have CP := hid (fun W (hb : Below w.heap.size w W) m (hm : m < s.length) kk => tpath_any (w := W) wf (hD.below hb) m kk hm)
  have RC := hid (And.intro r0 (And.intro r1 (And.intro r2 r3)))
  have hz2 := HB2.out.size
  have hbx : w.heap.size + 1 < w2.heap.size := World.block_lt_of_cell? w2 _ r2
  have HW2 := hid hw2
  clear hD wf q1' q2' hw2
  go_enter Tryz.func100, Tryz.ntmps100
  go_wp2
  rw [HW2.out]
  clear HW2
  go_region_held3 (fun w' => w'.cell? ⟨w.heap.size, 0, none⟩ = some (.int .i64 (n : Int)) ∧ w'.cell? ⟨w.heap.size, 1, none⟩ = some (.int .i64 (k : Int)) ∧ w'.cell? ⟨w.heap.size + 1, 0, none⟩ = some (.int .i64 (n2 : Int)) ∧ w'.cell? ⟨w.heap.size + 1, 1, none⟩ = some (.int .i64 (k2 : Int))) (first | exact KEEP2.out | exact KEEP1.out | go_keep) (first
    | (go_at_call 152
       refine (scmp_ways l l2 k k2 g3 c3 g4 c4 _ HC4.out HC5.out len3 len4).mono ?_
       rintro e w5 ⟨rfl, hw5⟩
       replace hw5 := hw5.symm
       subst hw5)
    | (go_at_call 153
       have hg := HC3.out
       refine (CP.out _ (by first | exact HB3.out | exact below_drewN HB3.out _ | exact HB3.out.drew) n2 hn2 k2).mono ?_
       rintro e w4 ⟨t4, l2, g4, c4, rfl, way4, top4, len4, hg5, hg6, hcells4, hb4⟩
       have HC4 : Hid (∀ (j x : Nat), (l ++ [k])[j]? = some x → w4.cell? ⟨g3, j, none⟩ = some (.int .i64 (x : Int))) := fun j x hx => (hb4.cell (p := ⟨g3, j, none⟩) (by first | exact hg4 | (simp; exact hg4))).trans (HC3.out j x hx)
       have HC5 := hid hcells4
       have HB4 : Hid (Below w.heap.size w w4) := (by first | exact HB3.out.trans (hb4.mono HB3.out.size) | exact (below_drewN HB3.out _).trans (hb4.mono HB3.out.size))
       have KEEP2 : Hid (w4.cell? ⟨w.heap.size, 0, none⟩ = some (.int .i64 (n : Int)) ∧ w4.cell? ⟨w.heap.size, 1, none⟩ = some (.int .i64 (k : Int)) ∧ w4.cell? ⟨w.heap.size + 1, 0, none⟩ = some (.int .i64 (n2 : Int)) ∧ w4.cell? ⟨w.heap.size + 1, 1, none⟩ = some (.int .i64 (k2 : Int))) :=
         ⟨(hb4.cell (p := ⟨w.heap.size, 0, none⟩) (by simp; omega)).trans KEEP1.out.1, (hb4.cell (p := ⟨w.heap.size, 1, none⟩) (by simp; omega)).trans KEEP1.out.2.1, (hb4.cell (p := ⟨w.heap.size + 1, 0, none⟩) (by simp; omega)).trans KEEP1.out.2.2.1, (hb4.cell (p := ⟨w.heap.size + 1, 1, none⟩) (by simp; omega)).trans KEEP1.out.2.2.2⟩
       have W4 := hid (And.intro way4 top4)
       clear way4 top4 hcells4 hb4 hg)
    | (go_at_call 153
       refine (CP.out _ (by first | exact below_drewN HB2.out _ | exact HB2.out | exact HB2.out.drew) n hn k).mono ?_
       rintro e w3 ⟨t3, l, g3, c3, rfl, way3, top3, len3, hg3, hg4, hcells3, hb3⟩
       have HC3 := hid hcells3
       have HB3 : Hid (Below w.heap.size w w3) := (below_drewN HB2.out _).trans (hb3.mono HB2.out.size)
       have hz3 : w2.heap.size ≤ w3.heap.size := hb3.size
       have KEEP1 : Hid (w3.cell? ⟨w.heap.size, 0, none⟩ = some (.int .i64 (n : Int)) ∧ w3.cell? ⟨w.heap.size, 1, none⟩ = some (.int .i64 (k : Int)) ∧ w3.cell? ⟨w.heap.size + 1, 0, none⟩ = some (.int .i64 (n2 : Int)) ∧ w3.cell? ⟨w.heap.size + 1, 1, none⟩ = some (.int .i64 (k2 : Int))) :=
         ⟨(hb3.cell (p := ⟨w.heap.size, 0, none⟩) (by show w.heap.size < w2.heap.size; omega)).trans RC.out.1, (hb3.cell (p := ⟨w.heap.size, 1, none⟩) (by show w.heap.size < w2.heap.size; omega)).trans RC.out.2.1, (hb3.cell (p := ⟨w.heap.size + 1, 0, none⟩) (by show w.heap.size + 1 < w2.heap.size; omega)).trans RC.out.2.2.1, (hb3.cell (p := ⟨w.heap.size + 1, 1, none⟩) (by show w.heap.size + 1 < w2.heap.size; omega)).trans RC.out.2.2.2⟩
       have W3 := hid (And.intro way3 top3)
       clear way3 top3 hcells3 hb3))
  go_wp2
  go_ret
  obtain ⟨way3, top3⟩ := W3.out
  obtain ⟨way4, top4⟩ := W4.out
  exact ⟨_, _, l, l2, way3, top3, way4, top4, rfl, HB4.out⟩
set_option maxRecDepth 20000 in
set_option maxHeartbeats 1000000 in
theorem tcompare_one (wf : WF s) (hD : PFor w F bf s) (n k n2 k2 : Nat) (tf : Nat → Nat) (htf : ∀ m, m < s.length → IsTop s m (tf m)) (hn : n < s.length) (hn2 : n2 < s.length) (hee : tf n = tf n2)
    (hA : ∀ W, Below w.heap.size w W → Calls Tryz.prog 98 #[ptr bf, .agg #[.int .i64 (n : Int), .int .i64 (k : Int)]] W fun e w' => e = .returned .nilIface ∧ Below W.heap.size W w')
    (hB : ∀ W, Below w.heap.size w W → Calls Tryz.prog 98 #[ptr bf, .agg #[.int .i64 (n2 : Int), .int .i64 (k2 : Int)]] W fun e w' => e = .returned .nilIface ∧ Below W.heap.size W w') :
    Calls Tryz.prog 62 #[ptr bf, .agg #[.int .i64 (n : Int), .int .i64 (k : Int)], .agg #[.int .i64 (n2 : Int), .int .i64 (k2 : Int)]] w fun e w' => ∃ l l2, Way s (tf n) n l ∧ Way s (tf n) n2 l2 ∧ e = .returned (.tuple #[.int .i64 (lexC (l ++ [k]) (l2 ++ [k2])), .nilIface]) ∧ Below w.heap.size w w' := by
  obtain ⟨bn, cap, pn, hD⟩ := hD
  have CA := hid (hA _ (ptwo_below w n k n2 k2))
  have CB := hid hB
  have HT := hid (ptwo_below w n k n2 k2)
  have CT := hid (fun W (hb : Below w.heap.size w W) m (hm : m < s.length) q => ttop_at (w := W.drewN q) wf (hD.below (below_drewN hb q)) (htf m hm) hm)
  have CO := hid (fun W (hb : Below w.heap.size w W) => torder_any (w := W) wf (hD.below hb) n k n2 k2 hn hn2)
  have HTF := hid htf
  clear hA hB hD wf htf
  go_enter Tryz.func62, Tryz.ntmps62
  go_wp2_with (first
    | (go_at_call 98; refine CA.out.mono ?_; clear CA; rintro e w1 ⟨rfl, hb1⟩
       obtain ⟨q1, q2⟩ := ptwo_cells hb1
       have p0 : w1.cell? ⟨w.heap.size, 0, none⟩ = some (.int .i64 (n : Int)) := cell_of_heap q1 0
       have p1 : w1.cell? ⟨w.heap.size, 1, none⟩ = some (.int .i64 (k : Int)) := cell_of_heap q1 1
       have p2 : w1.cell? ⟨w.heap.size + 1, 0, none⟩ = some (.int .i64 (n2 : Int)) := cell_of_heap q2 0
       have p3 : w1.cell? ⟨w.heap.size + 1, 1, none⟩ = some (.int .i64 (k2 : Int)) := cell_of_heap q2 1
       have HB1 := hid (HT.out.trans (hb1.mono HT.out.size))
       have H1 := hid hb1
       clear hb1 q1 q2)
    | (go_at_call 98; refine (CB.out _ HB1.out).mono ?_; clear CB; rintro e w2 ⟨rfl, hb2⟩
       obtain ⟨q1, q2⟩ := ptwo_cells (H1.out.trans (hb2.mono H1.out.size))
       have r0 : w2.cell? ⟨w.heap.size, 0, none⟩ = some (.int .i64 (n : Int)) := cell_of_heap q1 0
       have r1 : w2.cell? ⟨w.heap.size, 1, none⟩ = some (.int .i64 (k : Int)) := cell_of_heap q1 1
       have r2 : w2.cell? ⟨w.heap.size + 1, 0, none⟩ = some (.int .i64 (n2 : Int)) := cell_of_heap q2 0
       have r3 : w2.cell? ⟨w.heap.size + 1, 1, none⟩ = some (.int .i64 (k2 : Int)) := cell_of_heap q2 1
       have HB2 := hid (HB1.out.trans (hb2.mono HB1.out.size))
       clear hb2 q1 q2 p0 p1 p2 p3 HB1))
  go_quiet ((go_at_call 99; exact Calls.quiet_of_same (CT.out w2 HB2.out _ (by first | exact hn | exact hn2) _)))
  go_wp2_with (go_at_call 100; refine (CO.out _ (below_drewN HB2.out _)).mono ?_; rintro e w3 ⟨t3, t4, l, l2, way3, top3, way4, top4, rfl, hb3⟩
               have W3 := hid (And.intro way3 top3)
               have W4 := hid (And.intro way4 top4)
               clear way3 top3 way4 top4)
  go_ret2
  obtain ⟨way3, top3⟩ := W3.out
  obtain ⟨way4, top4⟩ := W4.out
  obtain rfl := top3.one (HTF.out n hn)
  obtain rfl := top4.one (HTF.out n2 hn2)
  refine ⟨l, l2, way3, ?_, rfl, (below_drewN HB2.out _).trans (hb3.mono (below_drewN HB2.out _).size)⟩
  rw [hee]; exact way4
end
end Go.Proofs.YtabogkonklplcaaGreatDoor

namespace Go.Proofs.YtabogkonklplcaaGreatDoor
open Go.RowKit Go.Lib
set_option linter.unusedSimpArgs false
set_option linter.unusedVariables false
section
variable {w : World} {F : Nat → Prop} {bf bn cap : Nat} {pn : List PN} {s : List Nd}
theorem torder_wh (wf : WF s) {h : Nat → Nat} {B : Nat} (u : Up s h B) (hD : PForAt w F bf bn cap pn s) (n k n2 k2 t : Nat) (hn : n < s.length) (hn2 : n2 < s.length) (h1 : IsTop s n t) (h2 : IsTop s n2 t) (hk : k ≤ sizeAt s n) (hk2 : k2 ≤ sizeAt s n2) :
    Calls Tryz.prog 100 #[ptr bf, .agg #[.int .i64 (n : Int), .int .i64 (k : Int)], .agg #[.int .i64 (n2 : Int), .int .i64 (k2 : Int)]] w fun e w' => ∃ q : Int, e = .returned (.int .i64 q) ∧ decide (q ≤ 0) = decide (wh (plF s (B + 1) t) (n, k) ≤ wh (plF s (B + 1) t) (n2, k2)) ∧ Below w.heap.size w w' := by
  refine (torder_any wf hD n k n2 k2 hn hn2).mono ?_
  rintro e w' ⟨t3, t4, l, l2, wa, ta, wb, tb, rfl, hb⟩
  obtain rfl := ta.one h1
  obtain rfl := tb.one h2
  refine ⟨_, rfl, ?_, hb⟩
  rw [cmp_ways wf u wa wb hk hk2 (wh_is _ _) (wh_is _ _)]
  refine decide_eq_decide.2 ?_
  split
  · constructor <;> intro _ <;> omega
  · split
    · constructor <;> intro _ <;> omega
    · constructor <;> intro _ <;> omega
set_option maxRecDepth 20000 in
set_option maxHeartbeats 1000000 in
theorem tcovers_any (wf : WF s) {h : Nat → Nat} {B : Nat} (u : Up s h B) (hD : PForAt w F bf bn cap pn s) (a b c d n k t : Nat) (ha : a < s.length) (hc : c < s.length) (hn : n < s.length) (ta : IsTop s a t) (tc : IsTop s c t) (tn : IsTop s n t) (hb : b ≤ sizeAt s a) (hd : d ≤ sizeAt s c) (hk : k + 1 ≤ sizeAt s n) :
    Calls Tryz.prog 159 #[ptr bf, spV ⟨a, b, c, d⟩, .agg #[.int .i64 (n : Int), .int .i64 (k : Int)]] w fun e w' => e = .returned (.bool (cov (plF s (B + 1) t) a b c d n k)) ∧ Below w.heap.size w w' := by
  have C1 := hid (fun W (hB : Below w.heap.size w W) => torder_wh wf u (hD.below hB) a b n k t ha hn ta tn hb (by omega))
  have C2 := hid (fun W (hB : Below w.heap.size w W) => torder_wh wf u (hD.below hB) n (k + 1) c d t hn hc tn tc hk hd)
  have hk100 : k < 1000 := by
    have hx : s[n]? = some s[n] := List.getElem?_eq_getElem hn
    rw [sizeAt_eq hx] at hk
    have := sizeN_le wf hx
    omega
  clear hD wf u
  unfold cov
  generalize hW1 : wh (plF s (B + 1) t) (a, b) = q1
  rw [hW1] at C1
  generalize hW2 : wh (plF s (B + 1) t) (n, k) = q2
  rw [hW2] at C1
  generalize hW3 : wh (plF s (B + 1) t) (n, k + 1) = q3
  rw [hW3] at C2
  generalize hW4 : wh (plF s (B + 1) t) (c, d) = q4
  rw [hW4] at C2
  clear hW1 hW2 hW3 hW4
  have HB3 : Hid (Below w.heap.size w (((w.alloc (.cells #[.int .i64 (a : Int), .int .i64 (b : Int), .int .i64 (c : Int), .int .i64 (d : Int)] 79)).alloc (.cells #[.int .i64 (n : Int), .int .i64 (k : Int)] 37)).alloc (.cells #[.int .i64 (n : Int), .int .i64 ((k : Int) + 1)] 37))) :=
    (((Below.refl _ w).alloc (Nat.le_refl _) _).alloc (by simp) _).alloc (by simp only [World.size_alloc]; omega) _
  have hx0 : (((w.alloc (.cells #[.int .i64 (a : Int), .int .i64 (b : Int), .int .i64 (c : Int), .int .i64 (d : Int)] 79)).alloc (.cells #[.int .i64 (n : Int), .int .i64 (k : Int)] 37)).alloc (.cells #[.int .i64 (n : Int), .int .i64 ((k : Int) + 1)] 37)).heap[w.heap.size]? = some (.cells #[.int .i64 (a : Int), .int .i64 (b : Int), .int .i64 (c : Int), .int .i64 (d : Int)] 79 (0, 0)) := by
    rw [Below.heap_alloc _ _ _ (by simp only [World.size_alloc]; omega), Below.heap_alloc _ _ _ (by simp), heap_alloc_new]
  have hx2 : (((w.alloc (.cells #[.int .i64 (a : Int), .int .i64 (b : Int), .int .i64 (c : Int), .int .i64 (d : Int)] 79)).alloc (.cells #[.int .i64 (n : Int), .int .i64 (k : Int)] 37)).alloc (.cells #[.int .i64 (n : Int), .int .i64 ((k : Int) + 1)] 37)).heap[w.heap.size + 1 + 1]? = some (.cells #[.int .i64 (n : Int), .int .i64 ((k : Int) + 1)] 37 (0, 0)) := by
    have := heap_alloc_new ((w.alloc (.cells #[.int .i64 (a : Int), .int .i64 (b : Int), .int .i64 (c : Int), .int .i64 (d : Int)] 79)).alloc (.cells #[.int .i64 (n : Int), .int .i64 (k : Int)] 37)) (.cells #[.int .i64 (n : Int), .int .i64 ((k : Int) + 1)] 37)
    simpa using this
  have HX0 := hid hx0
  have HX2 := hid hx2
  have C1' := hid (C1.out _ HB3.out)
  clear hx0 hx2 C1
  by_cases h12 : q1 ≤ q2
  · rw [decide_eq_true h12] at C1' ⊢
    rw [Bool.true_and]
    go_enter Tryz.func159, Tryz.ntmps159
    go_wp2_with (first
      | (go_at_call 100
         refine C1'.out.mono ?_
         clear C1'
         rintro e w1 ⟨r1, rfl, hr1, hb1⟩
         have hy0 := (hb1.block _ (heap_lt HX0.out)).trans HX0.out
         have hy2 := (hb1.block _ (heap_lt HX2.out)).trans HX2.out
         have y0 := cell_of_heap hy0 2
         have y1 := cell_of_heap hy0 3
         have y2 := cell_of_heap hy2 0
         have y3 := cell_of_heap hy2 1
         have HB4 := hid (HB3.out.trans (hb1.mono HB3.out.size))
         clear hb1 hy0 hy2)
      | (go_at_call 100
         refine (C2.out _ HB4.out).mono ?_
         rintro e w2 ⟨r2, rfl, hr2, hb2⟩
         have HB5 := hid (HB4.out.trans (hb2.mono HB4.out.size))
         clear hb2))
    go_ret
    exact ⟨rfl, HB5.out⟩
  · rw [decide_eq_false h12] at C1' ⊢
    rw [Bool.false_and]
    go_enter Tryz.func159, Tryz.ntmps159
    go_wp2_with (
         go_at_call 100
         refine C1'.out.mono ?_
         clear C1'
         rintro e w1 ⟨r1, rfl, hr1, hb1⟩
         have HB4 := hid (HB3.out.trans (hb1.mono HB3.out.size))
         clear hb1)
    go_ret
    exact ⟨rfl, HB4.out⟩
end
end Go.Proofs.YtabogkonklplcaaGreatDoor
