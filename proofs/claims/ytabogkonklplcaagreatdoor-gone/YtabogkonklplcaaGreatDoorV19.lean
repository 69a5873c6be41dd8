import Derived.Test.YtabogkonklplcaaGreatDoorV15
import Derived.Test.YtabogkonklplcaaGreatDoorV06
import Derived.Test.YtabogkonklplcaaGreatDoorV18
import Derived.BigQuiet
import Derived.Test.YtabogkonklplcaaGreatDoorV16
import Derived.Test.YtabogkonklplcaaGreatDoorV17
import Derived.Test.YtabogkonklplcaaGreatDoorV13
import Derived.Test.YtabogkonklplcaaGreatDoorV04
import Derived.Test.YtabogkonklplcaaGreatDoorV11

namespace Go.Proofs.YtabogkonklplcaaGreatDoor
open Go.RowKit
set_option linter.unusedSimpArgs false
set_option linter.unusedVariables false
theorem idxOf_first (l : List Nat) (m i : Nat) (hm : l[m]? = some i) (hno : i ∉ l.take m) : Lib.idxOf ((l.map Int.ofNat).take l.length) (i : Int) = (m : Int) := by
  have hml := (List.getElem?_eq_some_iff.1 hm).1
  have hmi : l[m] = i := (List.getElem?_eq_some_iff.1 hm).2
  have h := Lib.idxOf_hit (l.map Int.ofNat) l.length m (i : Int) hml (by simp) (by simp [List.getD, hm]) (by
    intro j hj e
    have hjl : j < l.length := by omega
    have e2 : l[j] = i := by
      have : (l.map Int.ofNat).getD j 0 = (l[j] : Int) := by simp [List.getD, hjl]
      rw [this] at e
      exact Int.ofNat.inj e
    exact hno (List.mem_take_iff_getElem.2 ⟨j, by omega, e2⟩))
  exact h
theorem cell_drewN (w : World) (q : Nat) (a : Addr) : (w.drewN q).cell? a = w.cell? a := rfl
section
variable {w : World} {F : Nat → Prop} {bf : Nat} {s : List Nd}
set_option maxHeartbeats 400000 in
theorem tremove_node (hD : PFor w F bf s) (n : Int) (h : isB s n = false) : Calls Tryz.prog 97 #[ptr bf, .int .i64 n] w (TPost F w bf s (.tuple #[.nilFunc, refusalV n 1])) := by
  have HD := hid hD
  obtain ⟨bn, cap, pn, hD⟩ := hD
  have C := hid (find_no hD n h)
  clear hD h
  go_enter Tryz.func97, Tryz.ntmps97
  go_wp2_with (go_at_call 87; refine C.out.mono ?_; rintro e w1 ⟨rfl, rfl⟩)
  go_ret2
  exact ⟨rfl, Keeps.refl _ _, HD.out.wider (fun b h => .inl h)⟩
set_option maxHeartbeats 1000000 in
theorem tremove_none (hD : PFor w F bf s) (i : Nat) (x : Nd) (hx : s[i]? = some x) (hp : x.p = -1) (hbig : s.length < lots) : Calls Tryz.prog 97 #[ptr bf, .int .i64 i] w (TPost F w bf s (.tuple #[.nilFunc, refusalV i 4])) := by
  have HD := hid hD
  obtain ⟨bn, cap, pn, hD⟩ := hD
  have hi : i < s.length := (List.getElem?_eq_some_iff.1 hx).1
  have C := hid (find_yes hD i (isB_of (by omega)))
  have h0 := hD.nodesCell
  obtain ⟨r, hr, ho, c0, c1, c2, c3⟩ := hD.look hx
  rw [hp] at c0
  clear hD c1 c2 c3 hr ho hx hp hbig
  go_enter Tryz.func97, Tryz.ntmps97
  go_wp2_with (go_at_call 87; refine C.out.mono ?_; rintro e w1 ⟨rfl, rfl⟩)
  go_ret2
  exact ⟨rfl, Keeps.refl _ _, HD.out.wider (fun b h => .inl h)⟩
theorem intsV_eq (l : List Nat) : (l.map Int.ofNat).map (Value.int .i64) = intsV l := by
  simp [intsV]
theorem PForAt.deleted {bn cap : Nat} {pn : List PN} (h : PForAt w F bf bn cap pn s) {j g c m : Nat} {r : PN} {y : Nd} (hr : pn[j]? = some r) (hy : s[j]? = some y) (hv : r.kv = .slice (some ⟨g, 0, none⟩) y.ks.length c) (hml : m < y.ks.length) (q : Nat) :
    PForAt ((w.drewN q).setCells g 0 ((((y.ks.map Int.ofNat).take y.ks.length).take m ++ ((y.ks.map Int.ofNat).take y.ks.length).drop (m + 1) ++ List.replicate (m + 1 - m) 0).map (Value.int .i64))) F bf bn cap pn (s.set j { y with ks := y.ks.take m ++ y.ks.drop (m + 1) ++ [0] }) ∧
      Keeps (fun b => b = g) w ((w.drewN q).setCells g 0 ((((y.ks.map Int.ofNat).take y.ks.length).take m ++ ((y.ks.map Int.ofNat).take y.ks.length).drop (m + 1) ++ List.replicate (m + 1 - m) 0).map (Value.int .i64))) := by
  have e : ((((y.ks.map Int.ofNat).take y.ks.length).take m ++ ((y.ks.map Int.ofNat).take y.ks.length).drop (m + 1) ++ List.replicate (m + 1 - m) 0).map (Value.int .i64)) = intsV (y.ks.take m ++ y.ks.drop (m + 1) ++ [0]) := by
    have e1 : m + 1 - m = 1 := by omega
    have e2 : (y.ks.map Int.ofNat).take y.ks.length = y.ks.map Int.ofNat := List.take_of_length_le (by simp)
    rw [e1, e2, ← List.map_take, ← List.map_drop, ← intsV_eq]
    simp
  rw [e]
  have ho := h.ok j r y hr hy
  have hk0 : Keeps (fun b => b = g) w (w.drewN q) := ⟨rfl, rfl, rfl, Nat.le_refl _, fun _ _ _ => rfl⟩
  have hk : Keeps (fun b => b = g) w ((w.drewN q).setCells g 0 (intsV (y.ks.take m ++ y.ks.drop (m + 1) ++ [0]))) := keeps_setCells g _ 0 _ hk0 rfl
  refine ⟨h.newRow hr hy (by rw [hv]; rfl) hk ?_, hk⟩
  obtain ⟨h1, h2⟩ := ho.kids
  rw [hv] at h2 ⊢
  rcases h2 with ⟨h3, _⟩ | ⟨g', cap', cur, hv', hg, hh, hn, hc, hs, ht⟩
  · cases h3
  · cases hv'
    have hlen : (y.ks.take m ++ y.ks.drop (m + 1) ++ [0]).length = y.ks.length := by simp; omega
    obtain ⟨cur', k1, k2, k3⟩ := heap_setCells g 3 (intsV (y.ks.take m ++ y.ks.drop (m + 1) ++ [0])) 0 (w.drewN q) cur hh (by rw [intsV_length, hlen]; omega)
    refine ⟨by rw [intsV_length]; omega, .inr ⟨g, c, cur', by rw [hlen], hg, k1, by rw [hlen]; exact hn, hc, by omega, ?_⟩⟩
    rw [k3]
    simp only [List.take_zero, List.nil_append, Nat.mul_one]
    rw [List.take_append_of_le_length (by simp), List.take_of_length_le (by simp)]
theorem PForAt.cellsThere {bn cap : Nat} {pn : List PN} (h : PForAt w F bf bn cap pn s) {i k : Nat} (hi : i < s.length) (hk : k < 4) : ∃ v, w.cell? ⟨bn, i * 4 + k, none⟩ = some v ∧ w.frozen? ⟨bn, i * 4 + k, none⟩ = false := by
  have hip : i < pn.length := by rw [h.len]; exact hi
  have h1 := h.cellAt (List.getElem?_eq_getElem hip) k hk
  refine ⟨(pn[i].cells)[k]'(by simpa [PN.cells] using hk), by rw [h1]; exact List.getElem?_eq_getElem _, ?_⟩
  obtain ⟨_, h2⟩ := h.nodes
  rcases h2 with ⟨h3, _⟩ | ⟨g, c, cur, hv, _, hh, _⟩
  · cases h3
  · cases hv
    exact frozen_of_heap hh _
theorem PForAt.afterDelete {bn cap : Nat} {pn : List PN} (h : PForAt w F bf bn cap pn s) {i j g c m : Nat} {r : PN} {x y : Nd} (hr : pn[j]? = some r) (hv : r.kv = .slice (some ⟨g, 0, none⟩) y.ks.length c) (hx : s[i]? = some x) (hy : s[j]? = some y) (ha : F g ∧ g ≠ bf ∧ g ≠ bn) (hml : m < y.ks.length) (hij : i ≠ j) {w2 : World}
    (h2 : PForAt w2 F bf bn cap pn (s.set j { y with ks := y.ks.take m ++ y.ks.drop (m + 1) ++ [0] })) (hk : Keeps (fun b => b = g) w w2) :
    TPost F w bf ((s.set j { y with ks := y.ks.take m ++ y.ks.drop (m + 1) }).set i { x with p := -1 }) .nilIface (.returned .nilIface) ((w2.setCell ⟨bn, j * 4 + 2, none⟩ (.slice (some ⟨g, 0, none⟩) (y.ks.length - (m + 1 - m)) c)).setCell ⟨bn, i * 4, none⟩ (.int .i64 (-1))) := by
  have hjl : j < s.length := (List.getElem?_eq_some_iff.1 hy).1
  have hlen : (y.ks.take m ++ y.ks.drop (m + 1)).length + 1 = y.ks.length := by simp; omega
  have hy2 : (s.set j { y with ks := y.ks.take m ++ y.ks.drop (m + 1) ++ [0] })[j]? = some { y with ks := y.ks.take m ++ y.ks.drop (m + 1) ++ [0] } := by simp [hjl]
  have ho := h2.ok j r _ hr hy2
  have hk0 := ho.kids
  simp only [hv] at hk0
  have hrow : w2.ownsRow 0 3 1 (.slice (some ⟨g, 0, none⟩) (y.ks.length - (m + 1 - m)) c) (y.ks.take m ++ y.ks.drop (m + 1)).length (intsV (y.ks.take m ++ y.ks.drop (m + 1))) := by
    have e1 : y.ks.length - (m + 1 - m) = (y.ks.take m ++ y.ks.drop (m + 1)).length := by omega
    rw [e1]
    refine ownsRow_pop (last := [.int .i64 0]) (by simp) ?_
    have e2 : intsV (y.ks.take m ++ y.ks.drop (m + 1) ++ [0]) = intsV (y.ks.take m ++ y.ks.drop (m + 1)) ++ [.int .i64 0] := by simp [intsV]
    have e3 : (y.ks.take m ++ y.ks.drop (m + 1) ++ [0]).length = (y.ks.take m ++ y.ks.drop (m + 1)).length + 1 := by simp; omega
    rw [e2, e3, ← hlen] at hk0
    exact hk0
  have h3 := h2.setNode (r' := { r with kv := .slice (some ⟨g, 0, none⟩) (y.ks.length - (m + 1 - m)) c }) (x' := { y with ks := y.ks.take m ++ y.ks.drop (m + 1) }) hr hy2 2 (by omega) _ rfl ⟨ho.t, ho.p, ho.ch, hrow, fun b e => by cases e; exact ha⟩
    (fun k r1 hk1 h1 b e => by cases e; exact h.sep j k r r1 (fun e => hk1 e.symm) hr h1 g (by rw [hv]; rfl))
  rw [List.set_set] at h3
  have hx3 : (s.set j { y with ks := y.ks.take m ++ y.ks.drop (m + 1) })[i]? = some x := by rw [List.getElem?_set_ne (fun e => hij e.symm)]; exact hx
  obtain ⟨pn4, h4⟩ := h3.newPar (-1) hx3
  refine ⟨rfl, ?_, bn, cap, pn4, h4.wider (fun b hb => .inl hb)⟩
  exact ((hk.mono (fun k _ e => by cases e; exact ha.1)).setCell (p := ⟨bn, j * 4 + 2, none⟩) (.inl h.Fn) _).setCell (p := ⟨bn, i * 4, none⟩) (.inl h.Fn) _
set_option maxHeartbeats 1000000 in
theorem tindex_at {bn cap : Nat} {pn : List PN} (hD : PForAt w F bf bn cap pn s) (i j m : Nat) (x y : Nd) (hx : s[i]? = some x) (hj : x.p = j) (hy : s[j]? = some y) (hm : y.ks[m]? = some i) (hno : i ∉ y.ks.take m) (hbig : s.length < lots) (hkb : y.ks.length < lots) :
    Calls Tryz.prog 106 #[ptr bf, .int .i64 i] w fun e w' => e = .returned (.int .i64 m) ∧ Drawn w w' := by
  have hi : i < s.length := (List.getElem?_eq_some_iff.1 hx).1
  have hjl : j < s.length := (List.getElem?_eq_some_iff.1 hy).1
  have hml : m < y.ks.length := (List.getElem?_eq_some_iff.1 hm).1
  have h0 := hD.nodesCell
  obtain ⟨r, hr, ho, c0, c1, c2, c3⟩ := hD.look hx
  obtain ⟨r2, hr2, ho2, d0, d1, d2, d3⟩ := hD.look hy
  obtain ⟨g, cp, cur, hv, hh, hn, hc, hcs, ht, hcell, hfr⟩ := row_ints ho2.kids (by intro e; rw [e] at hml; simp at hml)
  rw [hv] at d2
  rw [hj] at c0
  have C2 := hid (fun q => Tryz.slices_Index_int g 0 y.ks.length cp (y.ks.map Int.ofNat) (i : Int) (w.drewN q) (by simp) (by unfold lots at hkb; omega) hcell)
  rw [idxOf_first y.ks m i hm hno] at C2
  have hlt := hD.lt
  clear hD c1 c2 c3 d0 d1 d3 hr ho ho2 hr2 hcell hfr hh hc hcs ht hv hno hm hx hy hbig hkb
  go_enter Tryz.func106, Tryz.ntmps106
  go_wp2
  go_quiet ((go_at_call 155; exact Calls.quiet_of_same (C2.out _)))
  go_wp2
  go_ret
  exact ⟨rfl, nq, rfl⟩
set_option maxRecDepth 20000 in
set_option maxHeartbeats 1000000 in
theorem tahead_at {bn cap : Nat} {pn : List PN} (hD : PForAt w F bf bn cap pn s) (i j m : Nat) (x y : Nd) (hx : s[i]? = some x) (hj : x.p = j) (hy : s[j]? = some y) (hm : y.ks[m]? = some i) (hno : i ∉ y.ks.take m) (hbig : s.length < lots) (hkb : y.ks.length < lots) :
    Calls Tryz.prog 149 #[ptr bf, .int .i64 i] w fun e w' => e = .returned (.agg #[.int .i64 j, .int .i64 m]) ∧ Below w.heap.size w w' := by
  have hi : i < s.length := (List.getElem?_eq_some_iff.1 hx).1
  have h0 := hD.nodesCell
  obtain ⟨r, hr, ho, c0, c1, c2, c3⟩ := hD.look hx
  rw [hj] at c0
  have C2 := hid (fun W (hB : Below w.heap.size w W) => tindex_at (hD.below hB) i j m x y hx hj hy hm hno hbig hkb)
  have hlt := hD.lt
  have HB1 := hid (show Below w.heap.size w (w.alloc (.cells #[.int .i64 0, .int .i64 0] 37)) from (Below.refl _ w).alloc (Nat.le_refl _) _)
  have hnn : ¬ bn = w.heap.size := by omega
  have hnf : ¬ bf = w.heap.size := by omega
  clear hD c1 c2 c3 hr ho hno hm hx hy hbig hkb
  go_enter Tryz.func149, Tryz.ntmps149
  go_wp2
  go_region_with ((
    go_at_call 106
    refine (C2.out _ ?_).mono ?_
    · first | exact below_drewN HB1.out _ | exact HB1.out.drew
    rintro e w1 ⟨rfl, q0, rfl⟩))
  all_goals
    go_wp2
    refine bodyPost_ret (v := .agg #[.int .i64 (j : Int), .int .i64 (m : Int)]) (by simp [results, Tryz.results149, go_sem]) rfl ?_
    refine ⟨rfl, ?_⟩
    go_grown
    all_goals first | exact below_drewN (HB1.out.drew) _ | exact below_drewN (below_drewN HB1.out _) _ | exact below_drewN HB1.out _ | exact HB1.out.drew
set_option maxRecDepth 20000 in
set_option maxHeartbeats 2000000 in
theorem tremove_done (hD : PFor w F bf s) (i j m : Nat) (x y : Nd) (hx : s[i]? = some x) (hj : x.p = j) (hy : s[j]? = some y) (hm : y.ks[m]? = some i) (hno : i ∉ y.ks.take m) (hij : i ≠ j) (hbig : s.length < lots) (hkb : y.ks.length < lots) (wf2 : WF ((s.set j { y with ks := y.ks.take m ++ y.ks.drop (m + 1) }).set i { x with p := -1 })) {h2 : Nat → Nat} {H2 : Nat} (u2 : Up ((s.set j { y with ks := y.ks.take m ++ y.ks.drop (m + 1) }).set i { x with p := -1 }) h2 H2) :
    Calls Tryz.prog 97 #[ptr bf, .int .i64 i] w (TMv (gatherF (allF ((s.set j { y with ks := y.ks.take m ++ y.ks.drop (m + 1) }).set i { x with p := -1 }) (h2 i + 1) i) j m (shiftF j m (-1))) F w bf ((s.set j { y with ks := y.ks.take m ++ y.ks.drop (m + 1) }).set i { x with p := -1 })) := by
  obtain ⟨bn, cap, pn, hD⟩ := hD
  have hi : i < s.length := (List.getElem?_eq_some_iff.1 hx).1
  have hjl : j < s.length := (List.getElem?_eq_some_iff.1 hy).1
  have hml : m < y.ks.length := (List.getElem?_eq_some_iff.1 hm).1
  have C := hid (find_yes hD i (isB_of (by omega)))
  have h0 := hD.nodesCell
  obtain ⟨r, hr, ho, c0, c1, c2, c3⟩ := hD.look hx
  obtain ⟨r2, hr2, ho2, d0, d1, d2, d3⟩ := hD.look hy
  obtain ⟨g, cp, cur, hv, hh, hn, hc, hcs, ht, hcell, hfr⟩ := row_ints ho2.kids (by intro e; rw [e] at hml; simp at hml)
  rw [hv] at d2
  rw [hj] at c0
  have hneg : ((j : Int) == -1) = false := by simp
  have C2 := hid (tahead_at hD i j m x y hx hj hy hm hno hbig hkb)
  have C3 := hid (fun W (hB : Below w.heap.size w W) => Tryz.slices_Delete_int_cells g 0 y.ks.length cp m (m + 1) (y.ks.map Int.ofNat) W (by simp) hn (by unfold maxLen at hc; omega) (by omega) (by omega) (fun k hk => (hB.cell (p := ⟨g, 0 + k, none⟩) (heap_lt hh)).trans (hcell k hk)) (fun k hk => frozen_of_heap ((hB.block g (heap_lt hh)).trans hh) _))
  rw [show ((m + 1 : Nat) : Int) = (m : Int) + 1 from by omega] at C3
  have HDEL := hid (fun W (hB : Below w.heap.size w W) q => (hD.below hB).deleted hr2 hy hv hml q)
  have hgl : g < w.heap.size := heap_lt hh
  have hapart := (ho2.apart g (by rw [hv]; rfl))
  have hlt := hD.lt
  have hbfn : ¬ bf = bn := hD.ne
  have hgn : ¬ bn = g := fun e => hapart.2.2 e.symm
  have hgf : ¬ bf = g := fun e => hapart.2.1 e.symm
  have HALL := hid (And.intro hr2 (And.intro hv (And.intro hx (And.intro hy (And.intro hapart hD)))))
  have hm64 : (m : Int) + 1 ≤ 9223372036854775807 := by unfold lots at hkb; omega
  have hwm : IntKind.i64.wrap ((m : Int) + 1) = (m : Int) + 1 := by rw [IntKind.wrap_i64]; omega
  have WF2 := hid wf2
  clear wf2
  clear hD c1 c2 c3 d0 d1 d3 hr ho ho2 hr2 hcell hfr hh hc hcs ht hapart hv hno hm hx hy hbig hkb
  go_enter Tryz.func97, Tryz.ntmps97
  go_wp2_with first
    | (go_at_call 87; refine C.out.mono ?_; rintro e w0 ⟨rfl, hw0⟩; replace hw0 := hw0.symm; subst hw0)
    | (go_at_call 149; refine C2.out.mono ?_; rintro e w1 ⟨rfl, hb1⟩
       have h0' := (hb1.cell (p := ⟨bf, 0, none⟩) hlt.1).trans h0
       have d2' := (hb1.cell (p := ⟨bn, j * 4 + 2, none⟩) hlt.2).trans d2
       have hz1 := hb1.size
       have HB1 := hid hb1
       have hbA := hb1.alloc hb1.size (.cells #[.int .i64 (j : Int), .int .i64 (m : Int)] 37)
       have h0A := (hbA.cell (p := ⟨bf, 0, none⟩) hlt.1).trans h0
       have d2A := (hbA.cell (p := ⟨bn, j * 4 + 2, none⟩) hlt.2).trans d2
       have HBA := hid hbA.drew
       clear hb1 hbA)
  go_region
  go_wp2
  go_cut [] from 39 to 51 (fun wc => ∃ w2, wc = w2.setCell ⟨bn, j * 4 + 2, none⟩ (.slice (some ⟨g, 0, none⟩) (y.ks.length - 1) cp) ∧ PForAt w2 F bf bn cap pn (s.set j { y with ks := y.ks.take m ++ y.ks.drop (m + 1) ++ [0] }) ∧ Keeps (fun b => b = g) w w2 ∧ w2.heap[w1.heap.size]? = some (.cells #[.int .i64 (j : Int), .int .i64 (m : Int)] 37 (0, 0)))
  case first =>
    go_region_with ((
       go_at_call 150
       refine (C3.out _ HBA.out.drew).mono ?_
       rintro e w2 ⟨rfl, q, hw2⟩
       have hq := HDEL.out _ HBA.out.drew q
       rw [← hw2] at hq
       obtain ⟨hD2, hk2'⟩ := hq
       have hk2 : Keeps (fun b => b = g) w w2 := (Keeps.of_below HBA.out.drew).trans (hk2'.mono (fun k _ e => .inl e))
       have hq2 : w2.heap[w1.heap.size]? = some (.cells #[.int .i64 (j : Int), .int .i64 (m : Int)] 37 (0, 0)) := (hk2'.block w1.heap.size (by simp) (by omega)).trans (heap_alloc_new w1 _)
       obtain ⟨v2, f2, f2f⟩ := hD2.cellsThere (i := j) (k := 2) (by rw [List.length_set]; exact hjl) (by omega)
       have HC := hid (And.intro hD2 (And.intro hk2 hq2))
       clear hw2 hk2' hq2 hD2 hk2))
    all_goals
      go_wp2_with fail
      go_meet
      case rel => exact ⟨w2, by first | rfl | (congr 2; omega) | simp, HC.out.1, HC.out.2.1, HC.out.2.2⟩
  case rest =>
  obtain ⟨w2, rfl, hD2, hk2, hq2⟩ := hcut
  have lc0 : w2.cell? ⟨w1.heap.size, 0, none⟩ = some (.int .i64 (j : Int)) := cell_of_heap hq2 0
  have lc1 : w2.cell? ⟨w1.heap.size, 1, none⟩ = some (.int .i64 (m : Int)) := cell_of_heap hq2 1
  have hlq := heap_lt hq2
  have HQ2 := hid hq2
  have hbw : ¬ bn = w1.heap.size := by omega
  have AFT := hid (HALL.out.2.2.2.2.2.afterDelete HALL.out.1 HALL.out.2.1 HALL.out.2.2.1 HALL.out.2.2.2.1 HALL.out.2.2.2.2.1 hml hij hD2 hk2)
  have f0 := hD2.nodesCell
  rw [List.length_set] at f0
  obtain ⟨v2, f2, f2f⟩ := hD2.cellsThere (i := j) (k := 2) (by rw [List.length_set]; exact hjl) (by omega)
  obtain ⟨v3, f3, f3f⟩ := hD2.cellsThere (i := i) (k := 0) (by rw [List.length_set]; exact hi) (by omega)
  rw [Nat.add_zero] at f3 f3f
  clear hD2 hk2 hq2
  go_wp2_with first
    | (go_at_call 90
       have hA := AFT.out
       have e1 : m + 1 - m = 1 := by omega
       rw [e1] at hA
       obtain ⟨_, hkA, bnA, capA, pnA, hfA⟩ := hA
       have AFT2 := hid (And.intro hkA hfA)
       have COL := hid (collect_all WF2.out u2 hfA (h2 i + 1) i (by simpa using hi) (Nat.lt_succ_self _))
       simp only [World.size_setCell] at COL
       clear hkA hfA
       refine (all_any bf i _).mono ?_; rintro e w3 ⟨rfl, rfl⟩)
    | (go_at_call 89
       refine COL.out.mono ?_
       rintro e w4 ⟨a4, c4, rfl, hb4, hr4, hg4⟩
       have hq4 := (hb4.block w1.heap.size hlq).trans ((Below.heap_setCell _ _ _ _ (fun e => hbw e.symm)).trans ((Below.heap_setCell _ _ _ _ (fun e => hbw e.symm)).trans HQ2.out))
       have lc40 : w4.cell? ⟨w1.heap.size, 0, none⟩ = some (.int .i64 (j : Int)) := cell_of_heap hq4 0
       have lc41 : w4.cell? ⟨w1.heap.size, 1, none⟩ = some (.int .i64 (m : Int)) := cell_of_heap hq4 1
       have hlq4 := heap_lt hq4
       have HQ4 := hid hq4
       have B4 := hid hb4
       have R4 := hid (And.intro hr4 hg4)
       clear hb4 hr4 hg4 hq4)
  go_region_held3 (fun w' => w'.cell? ⟨w1.heap.size, 0, none⟩ = some (.int .i64 (j : Int)) ∧ w'.cell? ⟨w1.heap.size, 1, none⟩ = some (.int .i64 (m : Int))) (first | exact ⟨lc60, lc61⟩ | exact ⟨lc50, lc51⟩ | go_keep) (first
    | (go_at_call 151
       refine (gather_at _ _ _ _ _ _ _ _ _ _ _ w2.heap.size _ ((Keeps.of_below (F := fun _ => False) HB5.out).row R4.out.1 (fun _ _ e => e)) R4.out.2 (by simp [allF]) (by have := all_length WF2.out (h2 i + 1) i (by simpa using hi); unfold lots; omega) H5.out.1 H5.out.2 (by have := HB5.out.size; have hz4 := B4.out.size; simp only [World.size_setCell] at hz4; omega)).mono ?_
       rintro e w6 ⟨mv6, rfl, hb6, hM6⟩
       have hq6 := (hb6.block w1.heap.size hlq5).trans HQ5.out
       have lc60 : w6.cell? ⟨w1.heap.size, 0, none⟩ = some (.int .i64 (j : Int)) := cell_of_heap hq6 0
       have lc61 : w6.cell? ⟨w1.heap.size, 1, none⟩ = some (.int .i64 (m : Int)) := cell_of_heap hq6 1
       have H6 := hid (And.intro hM6 hb6)
       clear hM6 hb6 hq6)
    | (go_at_call 109
       refine (shift_at _ _ _ (by decide) (by decide) _).mono ?_
       rintro e w5 ⟨x5, y5, z5, rfl, hb5, hS5, l51, l52, l53⟩
       have hB5 : Below w4.heap.size w4 w5 := ⟨hb5.os, hb5.tape, hb5.output, hb5.size, hb5.block⟩
       have hq5 := (hB5.block w1.heap.size hlq4).trans HQ4.out
       have lc50 : w5.cell? ⟨w1.heap.size, 0, none⟩ = some (.int .i64 (j : Int)) := cell_of_heap hq5 0
       have lc51 : w5.cell? ⟨w1.heap.size, 1, none⟩ = some (.int .i64 (m : Int)) := cell_of_heap hq5 1
       have hlq5 := heap_lt hq5
       have HQ5 := hid hq5
       have hz4 := B4.out.size
       have HB5 := hid hB5
       have L1 : w4.heap.size ≤ x5 := l51
       have L2 : w4.heap.size ≤ y5 := l52
       have L3 : w4.heap.size ≤ z5 := l53
       have H5 := hid (And.intro hS5 (And.intro (show w2.heap.size ≤ x5 by simp only [World.size_setCell] at hz4; omega) (And.intro (show w2.heap.size ≤ y5 by simp only [World.size_setCell] at hz4; omega) (show w2.heap.size ≤ z5 by simp only [World.size_setCell] at hz4; omega))))
       clear hS5 l51 l52 l53 hq5 L1 L2 L3 hb5 hB5 hz4))
  all_goals
   go_wp2
   go_ret2
   obtain ⟨hkA, hfA⟩ := AFT2.out
   have hb4 := B4.out
   have hz4 := hb4.size
   simp only [World.size_setCell] at hz4
   have hb5 := HB5.out
   have hb6 := H6.out.2
   have hz5 := hb5.size
   have hz6 := hb6.size
   have hzk := hkA.size
   simp only [World.size_setCell] at hzk
   rw [← World.size_setCell w2 ⟨bn, j * 4 + 2, none⟩ (.slice (some ⟨g, 0, none⟩) (y.ks.length - 1) cp), ← World.size_setCell (w2.setCell ⟨bn, j * 4 + 2, none⟩ (.slice (some ⟨g, 0, none⟩) (y.ks.length - 1) cp)) ⟨bn, i * 4, none⟩ (.int .i64 (-1))] at hb4
   have hb := (hb4.trans (hb5.mono hb4.size)).trans (hb6.mono (Nat.le_trans hb4.size hb5.size))
   refine ⟨_, w2.heap.size, rfl, hkA.trans (Keeps.of_below hb), hzk, by omega, ⟨_, _, _, (hfA.narrow.below hb).wider (fun b h => ?_)⟩, H6.out.1⟩
   have hb2 := h.2
   simp only [World.size_setCell] at hb2
   rcases h.1 with e | e
   · exact .inl e
   · exact .inr ⟨e, hb2⟩
end
end Go.Proofs.YtabogkonklplcaaGreatDoor

namespace Go.Proofs.YtabogkonklplcaaGreatDoor
open Go.RowKit
set_option linter.unusedSimpArgs false
set_option linter.unusedVariables false
section
variable {w : World} {F : Nat → Prop} {bf bn cap : Nat} {pn : List PN} {s : List Nd}
theorem PForAt.setKids (h : PForAt w F bf bn cap pn s) {i g c : Nat} {r : PN} {x : Nd} (hr : pn[i]? = some r) (hx : s[i]? = some x) {w2 : World} {ks : List Nat} (hk : Keeps (fun b => r.kv.ownBlock = some b) w w2)
    (hrow : w2.ownsRow 0 3 1 (.slice (some ⟨g, 0, none⟩) ks.length c) ks.length (intsV ks)) (hg : r.kv.ownBlock = some g ∨ w.heap.size ≤ g) {G : Nat → Prop} (hG : ∀ b, F b ∨ w.heap.size ≤ b → G b) :
    PForAt (w2.setCell ⟨bn, i * 4 + 2, none⟩ (.slice (some ⟨g, 0, none⟩) ks.length c)) G bf bn cap (pn.set i { r with kv := .slice (some ⟨g, 0, none⟩) ks.length c }) (s.set i { x with ks := ks }) := by
  have ho := h.ok i r x hr hx
  have hi := (List.getElem?_eq_some_iff.1 hr).1
  have hi' := (List.getElem?_eq_some_iff.1 hx).1
  have hlt := h.lt
  have hgf : g ≠ bf := by
    rcases hg with e | e
    · exact (ho.apart g e).2.1
    · omega
  have hgn : g ≠ bn := by
    rcases hg with e | e
    · exact (ho.apart g e).2.2
    · omega
  have hk2 : Keeps (fun b => b = bn) w2 (w2.setCell ⟨bn, i * 4 + 2, none⟩ (.slice (some ⟨g, 0, none⟩) ks.length c)) := (Keeps.refl (fun b => b = bn) w2).setCell (p := ⟨bn, i * 4 + 2, none⟩) (.inl rfl) _
  refine ⟨?_, ?_, hG _ (.inl h.Ff), hG _ (.inl h.Fn), h.ne, by simpa using h.len, ?_, ?_⟩
  · have e1 := hk.block bf hlt.1 (fun e => (ho.apart bf e).2.1 rfl)
    rw [hk2.block bf (by have := hk.size; omega) h.ne, e1, List.length_set]
    exact h.forest
  · have hn := hk.row h.nodes (fun b e e2 => by cases e; exact (ho.apart _ e2).2.2 rfl)
    have := (hn.stored (i * 4 + 2) (.slice (some ⟨g, 0, none⟩) ks.length c)).1
    rw [pcells_set pn i r { r with kv := .slice (some ⟨g, 0, none⟩) ks.length c } hr 2 (by omega) _ rfl] at this
    rw [List.length_set]
    exact this
  · intro k r1 x1 h1 h2
    rw [List.getElem?_set] at h1 h2
    by_cases hik : i = k
    · subst hik
      rw [if_pos rfl, if_pos hi] at h1
      rw [if_pos rfl, if_pos hi'] at h2
      cases h1
      cases h2
      refine ⟨ho.t, ho.p, ho.ch, hk2.row hrow (fun b e e2 => by cases e; exact hgn e2), fun b e => ?_⟩
      cases e
      refine ⟨hG _ ?_, hgf, hgn⟩
      rcases hg with e | e
      · exact .inl (ho.apart g e).1
      · exact .inr e
    · rw [if_neg hik] at h1 h2
      have o := h.ok k r1 x1 h1 h2
      have o2 : POk w2 F bf bn r1 x1 := o.keeps hk (fun b e e2 => h.sep i k r r1 hik hr h1 b e2 e)
      have o3 := o2.keeps hk2 (fun b e e2 => (o.apart b e).2.2 e2)
      exact ⟨o3.t, o3.p, o3.ch, o3.kids, fun b e => ⟨hG _ (.inl (o3.apart b e).1), (o3.apart b e).2⟩⟩
  · have key : ∀ (k : Nat) (r1 : PN), k ≠ i → pn[k]? = some r1 → r1.kv.ownBlock ≠ some g := by
      intro k r1 hki h1 e
      rcases hg with eg | eg
      · exact h.sep i k r r1 (fun e => hki e.symm) hr h1 g eg e
      · have hkl : k < s.length := by rw [← h.len]; exact (List.getElem?_eq_some_iff.1 h1).1
        have o := h.ok k r1 _ h1 (List.getElem?_eq_getElem hkl)
        have := (o.kids.lt g e).2
        omega
    intro a b ra rb hab h1 h2 c' e
    rw [List.getElem?_set] at h1 h2
    by_cases ha : i = a
    · subst ha
      rw [if_pos rfl, if_pos hi] at h1
      cases h1
      rw [if_neg hab] at h2
      cases e
      exact key b rb (fun e => hab e.symm) h2
    · rw [if_neg ha] at h1
      by_cases hb : i = b
      · subst hb
        rw [if_pos rfl, if_pos hi] at h2
        cases h2
        intro e2
        cases e2
        exact key a ra (fun e => ha e.symm) h1 e
      · rw [if_neg hb] at h2
        exact h.sep a b ra rb hab h1 h2 c' e
theorem PForAt.afterInsert (h : PForAt w F bf bn cap pn s) {i j g c k : Nat} {r : PN} {x y : Nd} (hr : pn[i]? = some r) (hx : s[i]? = some x) (hy : s[j]? = some y) (hij : i ≠ j) (hkl : k ≤ x.ks.length) {wa w2 : World} (hwa : Below w.heap.size w wa)
    (hk : Keeps (fun b => r.kv.ownBlock = some b) wa w2) (hrow : w2.ownsRow 0 3 1 (.slice (some ⟨g, 0, none⟩) (x.ks.length + 1) c) (x.ks.length + 1) (intsV (putAt x.ks k j))) (hg : r.kv.ownBlock = some g ∨ wa.heap.size ≤ g) :
    Keeps F w ((w2.setCell ⟨bn, i * 4 + 2, none⟩ (.slice (some ⟨g, 0, none⟩) (x.ks.length + 1) c)).setCell ⟨bn, j * 4, none⟩ (.int .i64 (i : Int))) ∧
      PFor ((w2.setCell ⟨bn, i * 4 + 2, none⟩ (.slice (some ⟨g, 0, none⟩) (x.ks.length + 1) c)).setCell ⟨bn, j * 4, none⟩ (.int .i64 (i : Int))) (grow F w) bf ((s.set i { x with ks := x.ks.take k ++ j :: x.ks.drop k }).set j { y with p := i }) := by
  have hl := putAt_length x.ks k j hkl
  rw [← hl] at hrow ⊢
  have ho := h.ok i r x hr hx
  have hsz := hwa.size
  have h3 := (h.below hwa).setKids hr hx hk hrow hg (G := grow F w) (fun b e => e.imp id (fun e => by omega))
  have hy3 : (s.set i { x with ks := putAt x.ks k j })[j]? = some y := by rw [List.getElem?_set_ne hij]; exact hy
  obtain ⟨pn4, h4⟩ := h3.newPar i hy3
  refine ⟨?_, bn, cap, pn4, h4⟩
  have k1 : Keeps F w w2 := (Keeps.of_below hwa).trans (hk.mono (fun b _ e => .inl (ho.apart b e).1))
  exact (k1.setCell (p := ⟨bn, i * 4 + 2, none⟩) (.inl h.Fn) _).setCell (p := ⟨bn, j * 4, none⟩) (.inl h.Fn) _
theorem cellsOfRow {w : World} {g c n : Nat} {e : TypeId} {vs : List Value} (h : w.ownsRow 0 e 4 (.slice (some ⟨g, 0, none⟩) n c) n vs) (k : Nat) (hk : k < n * 4) : ∃ v, w.cell? ⟨g, k, none⟩ = some v ∧ w.frozen? ⟨g, k, none⟩ = false := by
  have h1 := h.cellAt k hk
  have hl : k < vs.length := by rw [h.1]; exact hk
  obtain ⟨_, h2⟩ := h
  rcases h2 with ⟨h3, _⟩ | ⟨g', c', cur, hv, _, hh, _⟩
  · cases h3
  · cases hv
    exact ⟨vs[k], by rw [h1]; exact List.getElem?_eq_getElem hl, frozen_of_heap hh _⟩
def AttPost (F : Nat → Prop) (w : World) (bf : Nat) (s' : List Nd) (e : Ending) (w' : World) : Prop := e = .returned (.tuple #[]) ∧ Keeps F w w' ∧ PFor w' (grow F w) bf s'
set_option maxRecDepth 20000 in
set_option maxHeartbeats 400000 in
theorem attach_any (hD : PForAt w F bf bn cap pn s) (i j k : Nat) (x y : Nd) (hx : s[i]? = some x) (hy : s[j]? = some y) (hk : k ≤ x.ks.length) (hij : i ≠ j) (hbig : s.length < lots) (hkb : x.ks.length < lots) :
    Calls Tryz.prog 107 #[ptr bf, .int .i64 i, .int .i64 j, .int .i64 k] w (AttPost F w bf ((s.set i { x with ks := x.ks.take k ++ j :: x.ks.drop k }).set j { y with p := i })) := by
  have hi : i < s.length := (List.getElem?_eq_some_iff.1 hx).1
  have hj : j < s.length := (List.getElem?_eq_some_iff.1 hy).1
  have h0 := hD.nodesCell
  obtain ⟨r, hr, ho, c0, c1, c2, c3⟩ := hD.look hx
  obtain ⟨sa, sc, hkv⟩ : ∃ a c, r.kv = .slice a x.ks.length c := by
    rcases row_cases ho.kids with ⟨h1, h2⟩ | ⟨g, c, h1⟩
    · exact ⟨none, 0, by rw [h1, h2]⟩
    · exact ⟨_, _, h1⟩
  have hwa : Below w.heap.size w (w.alloc (.cells #[.int .i64 (j : Int)] 3)) := (Below.refl _ w).alloc (Nat.le_refl _) _
  have hDa := hD.below hwa
  have C := hid (ins_one (hDa.ok i r x hr hx).kids k j hk hkb (heap_alloc_new w (.cells #[.int .i64 (j : Int)] 3)) (fun e => by have := (ho.kids.lt _ e).2; omega))
  have AFT := hid (fun w2 g c hk' hrow hg => hD.afterInsert (w2 := w2) (g := g) (c := c) hr hx hy hij hk hwa hk' hrow hg)
  have CELLS := hid (fun (w2 : World) (hk' : Keeps (fun b => r.kv.ownBlock = some b) (w.alloc (.cells #[.int .i64 (j : Int)] 3)) w2) => (And.intro ((hk'.cell hDa.nodesCell (fun e => (ho.apart _ e).2.1 rfl))) (hk'.row hDa.nodes (fun b e e2 => by cases e; exact (ho.apart _ e2).2.2 rfl))))
  rw [hkv] at c2 C AFT CELLS
  have hlt := hD.lt
  have hbfn : ¬ bf = bn := hD.ne
  have hlen := hD.len
  clear hD c0 c1 c3 hr ho hDa hkv hx hy hbig hkb
  go_enter Tryz.func107, Tryz.ntmps107
  go_wp2_with (go_at_call 156; refine C.out.mono ?_; rintro e w2 ⟨g, c, rfl, hrow, hk', hg⟩
               have AF := hid (AFT.out w2 g c hk' hrow hg)
               obtain ⟨f0, fn⟩ := CELLS.out w2 hk'
               have FN := hid fn
               obtain ⟨v2, f2, f2f⟩ := cellsOfRow fn (i * 4 + 2) (by omega)
               obtain ⟨v3, f3, f3f⟩ := cellsOfRow fn (j * 4) (by omega)
               clear fn hrow hk' hg)
  go_end0
  exact ⟨rfl, AF.out⟩
set_option maxHeartbeats 400000 in
theorem may_parent (hD : PForAt w F bf bn cap pn s) (A B C : Int) (h : isB s A = false) : Calls Tryz.prog 146 #[ptr bf, .int .i64 A, .int .i64 B, .int .i64 C] w fun e w' => e = .returned (refusalV A 1) ∧ Below w.heap.size w w' := by
  have C1 := hid (find_no hD A h)
  clear hD h
  go_enter Tryz.func146, Tryz.ntmps146
  go_wp2_with (go_at_call 87; refine C1.out.mono ?_; rintro e w1 ⟨rfl, rfl⟩)
  go_ret
  exact ⟨rfl, Below.refl _ _⟩
set_option maxHeartbeats 400000 in
theorem may_node (hD : PForAt w F bf bn cap pn s) (A B C : Int) (hA : isB s A = true) (h : isB s B = false) : Calls Tryz.prog 146 #[ptr bf, .int .i64 A, .int .i64 B, .int .i64 C] w fun e w' => e = .returned (refusalV B 1) ∧ Below w.heap.size w w' := by
  have C1 := hid (find_yes hD A hA)
  have C2 := hid (find_no hD B h)
  clear hD h hA
  go_enter Tryz.func146, Tryz.ntmps146
  go_wp2_with (go_at_call 87; (first | (refine C1.out.mono ?_; clear C1; rintro e w1 ⟨rfl, hw1⟩; subst hw1) | (refine C2.out.mono ?_; clear C2; rintro e w1 ⟨rfl, hw1⟩; subst hw1)))
  go_ret
  exact ⟨rfl, Below.refl _ _⟩
set_option maxHeartbeats 1000000 in
theorem may_kind (hD : PForAt w F bf bn cap pn s) (i j : Nat) (C : Int) (x : Nd) (hx : s[i]? = some x) (hj : j < s.length) (ht : x.t = true) : Calls Tryz.prog 146 #[ptr bf, .int .i64 i, .int .i64 j, .int .i64 C] w fun e w' => e = .returned (refusalV i 2) ∧ Below w.heap.size w w' := by
  have hi : i < s.length := (List.getElem?_eq_some_iff.1 hx).1
  have C1 := hid (find_yes hD i (isB_of (by omega)))
  have C2 := hid (find_yes hD j (isB_of (by omega)))
  have h0 := hD.nodesCell
  obtain ⟨r, hr, ho, c0, c1, c2, c3⟩ := hD.look hx
  rw [ht] at c1
  clear hD hx ho hr c0 c2 c3
  go_enter Tryz.func146, Tryz.ntmps146
  go_wp2_with (go_at_call 87; (first | (refine C1.out.mono ?_; clear C1; rintro e w1 ⟨rfl, hw1⟩; subst hw1) | (refine C2.out.mono ?_; clear C2; rintro e w1 ⟨rfl, hw1⟩; subst hw1)))
  go_ret
  exact ⟨rfl, Below.refl _ _⟩
end
end Go.Proofs.YtabogkonklplcaaGreatDoor

namespace Go.Proofs.YtabogkonklplcaaGreatDoor
open Go.RowKit Go.Lib
set_option linter.unusedSimpArgs false
set_option linter.unusedVariables false
theorem errOf_O (n k : Int) : ErrOf (.iface 145 (.agg #[.int .i64 n, outV k])) n 3 := fun w hg => (fault_O n k w hg).mono fun e w' ⟨h1, h2⟩ => ⟨by rw [h1]; simp [errV], h2⟩
section
variable {w : World} {F : Nat → Prop} {bf bn cap : Nat} {pn : List PN} {s : List Nd}
set_option maxHeartbeats 400000 in
theorem findText_no (hD : PForAt w F bf bn cap pn s) (n : Int) (h : isB s n = false) : Calls Tryz.prog 101 #[ptr bf, .int .i64 n] w fun e w' => e = .returned (refusalV n 1) ∧ w' = w := by
  have C := hid (find_no hD n h)
  clear hD h
  go_enter Tryz.func101, Tryz.ntmps101
  go_wp2_with (go_at_call 87; refine C.out.mono ?_; rintro e w1 ⟨rfl, rfl⟩)
  go_ret
  exact ⟨rfl, rfl⟩
set_option maxHeartbeats 400000 in
theorem findText_kind (hD : PForAt w F bf bn cap pn s) (n : Nat) (x : Nd) (hx : s[n]? = some x) (ht : x.t = false) : Calls Tryz.prog 101 #[ptr bf, .int .i64 n] w fun e w' => e = .returned (refusalV n 2) ∧ w' = w := by
  have hi : n < s.length := (List.getElem?_eq_some_iff.1 hx).1
  have C := hid (find_yes hD n (isB_of (by omega)))
  have h0 := hD.nodesCell
  obtain ⟨r, hr, ho, c0, c1, c2, c3⟩ := hD.look hx
  rw [ht] at c1
  clear hD c0 c2 c3 hr ho hx
  go_enter Tryz.func101, Tryz.ntmps101
  go_wp2_with (go_at_call 87; refine C.out.mono ?_; rintro e w1 ⟨rfl, rfl⟩)
  go_ret
  exact ⟨rfl, rfl⟩
set_option maxHeartbeats 400000 in
theorem findText_ok (hD : PForAt w F bf bn cap pn s) (n : Nat) (x : Nd) (hx : s[n]? = some x) (ht : x.t = true) : Calls Tryz.prog 101 #[ptr bf, .int .i64 n] w fun e w' => e = .returned .nilIface ∧ w' = w := by
  have hi : n < s.length := (List.getElem?_eq_some_iff.1 hx).1
  have C := hid (find_yes hD n (isB_of (by omega)))
  have h0 := hD.nodesCell
  obtain ⟨r, hr, ho, c0, c1, c2, c3⟩ := hD.look hx
  rw [ht] at c1
  clear hD c0 c2 c3 hr ho hx
  go_enter Tryz.func101, Tryz.ntmps101
  go_wp2_with (go_at_call 87; refine C.out.mono ?_; rintro e w1 ⟨rfl, rfl⟩)
  go_ret
  exact ⟨rfl, rfl⟩
theorem PForAt.newChars (h : PForAt w F bf bn cap pn s) {i : Nat} {x : Nd} {cs' : List ByteArray} (hx : s[i]? = some x) :
    ∃ pn2, PForAt (w.setCell ⟨bn, i * 4 + 3, none⟩ (.string (catB cs'))) F bf bn cap pn2 (s.set i { x with cs := cs' }) := by
  obtain ⟨r, hr, ho⟩ := h.raw hx
  exact ⟨_, h.setNode (r' := { r with ch := catB cs' }) (x' := { x with cs := cs' }) hr hx 3 (by omega) _ rfl ⟨ho.t, ho.p, rfl, ho.kids, ho.apart⟩ (fun k r1 hk h1 b e => h.sep i k r r1 (fun e => hk e.symm) hr h1 b e)⟩
end
section
variable {w : World} {F : Nat → Prop} {bf : Nat} {s : List Nd}
set_option maxHeartbeats 400000 in
theorem treplace_unfit (hD : PFor w F bf s) (n o c : Int) (t : ByteArray) (u : Value) (hT : Calls Tryz.prog 101 #[ptr bf, .int .i64 n] w fun e w' => e = .returned (.iface 145 u) ∧ w' = w) :
    Calls Tryz.prog 68 #[ptr bf, .int .i64 n, .int .i64 o, .int .i64 c, .string t] w (TPost F w bf s (.tuple #[.nilFunc, .iface 145 u])) := by
  have HD := hid hD
  have C := hid hT
  clear hD hT
  go_enter Tryz.func68, Tryz.ntmps68
  go_wp2_with (go_at_call 101; refine C.out.mono ?_; rintro e w1 ⟨rfl, rfl⟩)
  go_ret2
  exact ⟨rfl, Keeps.refl _ _, HD.out.wider (fun b h => .inl h)⟩
set_option maxHeartbeats 1000000 in
theorem treplace_bad (hD : PFor w F bf s) (n : Nat) (o c : Int) (t : ByteArray) (x : Nd) (hx : s[n]? = some x) (ht : x.t = true) {Q : Value → Prop}
    (hS : ∀ w1, Below w.heap.size w w1 → Calls Tryz.prog 113 #[.string (catB x.cs), .int .i64 o, .int .i64 c, .string t, .int .i64 30] w1 fun e w' => (∃ ty v, Q (.iface ty v) ∧ e = .returned (.tuple #[.string ⟨#[]⟩, .iface ty v])) ∧ Below w1.heap.size w1 w') :
    Calls Tryz.prog 68 #[ptr bf, .int .i64 n, .int .i64 o, .int .i64 c, .string t] w fun e w' => ∃ u, Q u ∧ TPost F w bf s (.tuple #[.nilFunc, .iface 145 (.agg #[.int .i64 n, u])]) e w' := by
  have HD := hid hD
  obtain ⟨bn, cap, pn, hD⟩ := hD
  have hi : n < s.length := (List.getElem?_eq_some_iff.1 hx).1
  have C := hid (findText_ok hD n x hx ht)
  have h0 := hD.nodesCell
  have hlt := hD.lt
  obtain ⟨r, hr, ho, c0, c1, c2, c3⟩ := hD.look hx
  have CS := hid hS
  clear hD c0 c1 c2 hr ho hx hS
  go_enter Tryz.func68, Tryz.ntmps68
  go_wp2_with first
    | (go_at_call 101; refine C.out.mono ?_; rintro e w1 ⟨rfl, hw1⟩; replace hw1 := hw1.symm; subst hw1)
    | (go_at_call 113; refine (CS.out _ (by first | exact Below.refl _ _ | go_grown)).mono ?_; rintro e w2 ⟨⟨ty, v, hQ, rfl⟩, hb2⟩)
  go_ret2
  exact ⟨_, hQ, rfl, Keeps.of_below hb2, (HD.out.below hb2).wider (fun b h => .inl h)⟩
set_option maxRecDepth 20000 in
set_option maxHeartbeats 1000000 in
theorem treplace_done (hD : PFor w F bf s) (n : Nat) (o : Nat) (c : Int) (t : ByteArray) (x : Nd) (hx : s[n]? = some x) (ht : x.t = true) (hlen : x.cs.length ≤ 30) (hch : ∀ d ∈ x.cs, IsCh d) (ho' : o ≤ x.cs.length) (lf cs' : List ByteArray) (hlf : charsOf t = some lf) (hl30 : lf.length ≤ 30) (hc0 : 0 ≤ c)
    (hS : ∀ w1, Below w.heap.size w w1 → Calls Tryz.prog 113 #[.string (catB x.cs), .int .i64 (o : Int), .int .i64 c, .string t, .int .i64 30] w1 fun e w' => e = .returned (.tuple #[.string (catB cs'), .nilIface]) ∧ Below w1.heap.size w1 w') :
    Calls Tryz.prog 68 #[ptr bf, .int .i64 n, .int .i64 (o : Int), .int .i64 c, .string t] w (TMv (resizeF n o (min c ((x.cs.length : Int) - o)) lf.length) F w bf (s.set n { x with cs := cs' })) := by
  obtain ⟨bn, cap, pn, hD⟩ := hD
  have hi : n < s.length := (List.getElem?_eq_some_iff.1 hx).1
  have C := hid (findText_ok hD n x hx ht)
  have h0 := hD.nodesCell
  have hlt := hD.lt
  obtain ⟨r, hr, ho, c0, c1, c2, c3⟩ := hD.look hx
  have CS := hid hS
  have CC := hid (fun w1 => count_any x.cs hch (by unfold lots; omega) w1)
  have CT := hid (fun w1 => count_any lf (charsOf_isCh t.size t lf (Nat.le_refl _) hlf) (by unfold lots; omega) w1)
  rw [charsOf_cat t.size t lf (Nat.le_refl _) hlf] at CT
  have HD := hid hD
  have HX := hid hx
  have oI : (o : Int) ≤ (x.cs.length : Int) := by omega
  have lI : (x.cs.length : Int) ≤ 30 := by omega
  clear hD c0 c1 c2 hr ho hx hS hch hlf ht
  go_enter Tryz.func68, Tryz.ntmps68
  go_wp2_with first
    | (go_at_call 101; refine C.out.mono ?_; rintro e w1 ⟨rfl, hw1⟩; replace hw1 := hw1.symm; subst hw1)
    | (go_at_call 113; refine (CS.out _ (by first | exact Below.refl _ _ | go_grown)).mono ?_; rintro e w2 ⟨rfl, hb2⟩
       have d3 := (hb2.cell (p := ⟨bn, n * 4 + 3, none⟩) hlt.2).trans c3)
    | (go_at_call 105; refine (CC.out _).mono ?_; clear CC; rintro e w3 ⟨rfl, hb3⟩
       have HB3 := hid (hb2.trans (hb3.mono hb2.size))
       have g3 := (HB3.out.cell (p := ⟨bn, n * 4 + 3, none⟩) hlt.2).trans c3
       obtain ⟨gv, g4, gf⟩ := (HD.out.below HB3.out).cellsThere (i := n) (k := 3) hi (by omega)
       clear d3)
    | (go_at_call 105; refine (CT.out _).mono ?_; rintro e w4 ⟨rfl, hb4⟩)
    | (go_at_call 104; refine (resize_at _ _ _ _ _ (by omega) (by omega) (by omega) (by omega) (by omega) (by omega)).mono ?_; rintro e w5 ⟨bs, rfl, hb5, hM5⟩
       have H5 := hid hM5
       clear hM5)
  go_ret2
  obtain ⟨pn2, h2⟩ := (HD.out.below HB3.out).newChars (cs' := cs') HX.out
  have hb := hb4.trans (hb5.mono hb4.size)
  have hz4 := hb4.size
  rw [World.size_setCell] at hz4
  have hz3 := HB3.out.size
  exact ⟨_, _, rfl, ((Keeps.of_below HB3.out).setCell (p := ⟨bn, n * 4 + 3, none⟩) (.inl HD.out.Fn) _).trans (Keeps.of_below hb), by omega, hb5.size, ⟨_, _, _, (h2.below hb).wider (fun b h => .inl h)⟩, H5.out⟩
end
set_option maxHeartbeats 400000 in
theorem mreplace_no {w : World} {F : Nat → Prop} {bx : Nat} {s s' : List Nd} {rs : List Sp} (hg : GG w) (hP : PLies w F bx ⟨s, rs⟩) {a y : Int} (A B C : Int) (t : ByteArray)
    (hT : ∀ (F' : Nat → Prop) (bf : Nat), PFor w F' bf s → Calls Tryz.prog 68 #[ptr bf, .int .i64 A, .int .i64 B, .int .i64 C, .string t] w fun e w' => ∃ ty u, ErrOf (.iface ty u) a y ∧ TPost F' w bf s' (.tuple #[.nilFunc, .iface ty u]) e w') :
    Calls Tryz.prog 34 #[ptr bx, .int .i64 A, .int .i64 B, .int .i64 C, .string t] w (PLPost F w bx ⟨s', rs⟩ (errV a y)) := by
  obtain ⟨bf, bl, sv, hD⟩ := hP
  have C := hid (hT _ _ hD.nodes)
  have c0 : w.cell? ⟨bx, 0, none⟩ = some (ptr bf) := cell_of_heap hD.doc 0
  have AF := hid (fun w1 w2 => pdoc_after (w1 := w1) (w2 := w2) (s' := s') hg hD)
  have AG := hid (fun w1 => gg_after (w1 := w1) (F := F) (bx := bx) (bl := bl) (sv := sv) hg)
  clear hD hT hg
  go_enter Tryz.func34, Tryz.ntmps34
  go_wp2_with first
    | (go_at_call 68; refine C.out.mono ?_; rintro e w1 ⟨ty, u, hE, rfl, hk, hf⟩; have E1 := hid (mfollow_no (AG.out w1 hk) bx .nilFunc hE); have A1 := hid (fun w2 => AF.out w1 w2 hk hf); clear hk hf hE)
    | (go_at_call 64; refine E1.out.mono ?_; rintro e w2 ⟨rfl, hb⟩)
  go_ret
  exact ⟨rfl, (A1.out _ hb).1, _, _, _, (A1.out _ hb).2⟩
end Go.Proofs.YtabogkonklplcaaGreatDoor

namespace Go.Proofs.YtabogkonklplcaaGreatDoor
open Go.RowKit Go.Lib
set_option linter.unusedSimpArgs false
set_option linter.unusedVariables false
theorem wf_chars {s : List Nd} (wf : WF s) {n : Nat} {x : Nd} (hx : s[n]? = some x) (ht : x.t = true) {cs : List ByteArray} (hc : cs.length ≤ 30 ∧ ∀ c ∈ cs, IsCh c) : WF (s.set n { x with cs := cs }) := by
  have key : ∀ (i : Nat) (y : Nd), (s.set n { x with cs := cs })[i]? = some y → ∃ z, s[i]? = some z ∧ y.t = z.t ∧ y.ks = z.ks ∧ y.p = z.p ∧ (y.cs = z.cs ∨ i = n ∧ y.cs = cs) := by
    intro i y h
    rw [List.getElem?_set] at h
    by_cases hi : n = i
    · subst hi
      have hl := (List.getElem?_eq_some_iff.1 hx).1
      rw [if_pos rfl, if_pos hl] at h
      cases h
      exact ⟨x, hx, rfl, rfl, rfl, .inr ⟨rfl, rfl⟩⟩
    · rw [if_neg hi] at h
      exact ⟨y, h, rfl, rfl, rfl, .inl rfl⟩
  have back : ∀ (i : Nat) (z : Nd), s[i]? = some z → ∃ y, (s.set n { x with cs := cs })[i]? = some y ∧ y.t = z.t ∧ y.ks = z.ks ∧ y.p = z.p := by
    intro i z h
    by_cases hi : n = i
    · subst hi
      have hl := (List.getElem?_eq_some_iff.1 hx).1
      obtain rfl : x = z := Option.some.inj (hx.symm.trans h)
      exact ⟨{ x with cs := cs }, by rw [List.getElem?_set, if_pos rfl, if_pos hl], rfl, rfl, rfl⟩
    · exact ⟨z, by rw [List.getElem?_set, if_neg hi]; exact h, rfl, rfl, rfl⟩
  refine ⟨by simpa using wf.pos, by simpa using wf.cap, ?_, ?_, ?_, ?_, ?_, ?_, ?_⟩
  · obtain ⟨h, B, u⟩ := wf.up
    refine ⟨h, B, u.1, fun i y hy hp => ?_⟩
    obtain ⟨z, hz, _, _, ep, _⟩ := key i y hy
    rw [List.length_set, ep]
    exact u.par i z hz (by omega)
  · intro i y hy c hc'
    obtain ⟨z, hz, _, ek, _, _⟩ := key i y hy
    rw [ek] at hc'
    obtain ⟨z2, hz2, hp2⟩ := wf.kid i z hz c hc'
    obtain ⟨y2, hy2, _, _, ep2⟩ := back c z2 hz2
    exact ⟨y2, hy2, by rw [ep2]; exact hp2⟩
  · intro c y hy
    obtain ⟨z, hz, _, _, ep, _⟩ := key c y hy
    rcases wf.par c z hz with h | ⟨i, z2, h1, h2, h3⟩
    · exact .inl (by rw [ep]; exact h)
    · obtain ⟨y2, hy2, _, ek2, _⟩ := back i z2 h2
      exact .inr ⟨i, y2, by rw [ep]; exact h1, hy2, by rw [ek2]; exact h3⟩
  · intro i y hy
    obtain ⟨z, hz, _, ek, _, _⟩ := key i y hy
    rw [ek]; exact wf.nodup i z hz
  · intro y hy
    obtain ⟨z, hz, _, _, ep, _⟩ := key 0 y hy
    rw [ep]; exact wf.root z hz
  · intro i y hy
    obtain ⟨z, hz, et, ek, _, ec⟩ := key i y hy
    refine ⟨fun h => by rw [ek]; exact (wf.elem i z hz).1 (by rw [← et]; exact h), fun h => ?_⟩
    rcases ec with ec | ⟨rfl, ec⟩
    · rw [ec]; exact (wf.elem i z hz).2 (by rw [← et]; exact h)
    · obtain rfl : x = z := Option.some.inj (hx.symm.trans hz)
      rw [et, ht] at h; cases h
  · intro i y hy
    obtain ⟨z, hz, _, _, _, ec⟩ := key i y hy
    rcases ec with ec | ⟨_, ec⟩
    · rw [ec]; exact wf.chars i z hz
    · rw [ec]; exact hc
end Go.Proofs.YtabogkonklplcaaGreatDoor
