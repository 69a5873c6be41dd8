import Derived.Test.YtabogkonklplcaaGreatDoorE24
import Derived.Test.YtabogkonklplcaaGreatDoorE18
import Derived.Test.YtabogkonklplcaaGreatDoorE27
import Derived.BigQuiet

/- tree.Remove; the document's answers at Remove. -/
namespace Go.Proofs.YtabogkonklplcaaGreatDoor
open Go.RowKit
set_option linter.unusedSimpArgs false
set_option linter.unusedVariables false

theorem idxOf_first (l : List Nat) (m i : Nat) (hm : l[m]? = some i) (hno : i ∉ l.take m) : Lib.idxOf ((l.map Int.ofNat).take l.length) (i : Int) = (m : Int) := by
  have hml := (List.getElem?_eq_some_iff.1 hm).1
  have hmi : l[m] = i := (List.getElem?_eq_some_iff.1 hm).2
  have h := Lib.idxOf_hit (l.map Int.ofNat) l.length m (i : Int) hml (by simp) (by simp [List.getD, hm]) (by
    intro j hj e
    have hjl : j < l.length := by omega
    have e2 : l[j] = i := by
      have : (l.map Int.ofNat).getD j 0 = (l[j] : Int) := by simp [List.getD, hjl]
      rw [this] at e
      exact Int.ofNat.inj e
    exact hno (List.mem_take_iff_getElem.2 ⟨j, by omega, e2⟩))
  exact h

theorem cell_drewN (w : World) (q : Nat) (a : Addr) : (w.drewN q).cell? a = w.cell? a := rfl
theorem Keeps.undrawn {F : Nat → Prop} {w w' : World} {q : Nat} (h : Keeps F (w.drewN q) w') : Keeps F w w' := ⟨h.os, h.tape, h.output, h.size, h.block⟩

section
variable {w : World} {F : Nat → Prop} {bf : Nat} {s : List Nd}

set_option maxHeartbeats 400000 in
theorem tremove_node (hD : PFor w F bf s) (n : Int) (h : isB s n = false) : Calls Tryz.prog 97 #[ptr bf, .int .i64 n] w (TPost F w bf s (.tuple #[.nilFunc, refusalV n 1])) := by
  have HD := hid hD
  obtain ⟨bn, cap, pn, hD⟩ := hD
  have C := hid (find_no hD n h)
  clear hD h
  go_enter Tryz.func97, Tryz.ntmps97
  go_wp2_with (go_at_call 87; refine C.out.mono ?_; rintro e w1 ⟨rfl, rfl⟩)
  go_ret2
  exact ⟨rfl, Keeps.refl _ _, HD.out.wider (fun b h => .inl h)⟩

set_option maxHeartbeats 1000000 in
theorem tremove_none (hD : PFor w F bf s) (i : Nat) (x : Nd) (hx : s[i]? = some x) (hp : x.p = -1) (hbig : s.length < lots) : Calls Tryz.prog 97 #[ptr bf, .int .i64 i] w (TPost F w bf s (.tuple #[.nilFunc, refusalV i 4])) := by
  have HD := hid hD
  obtain ⟨bn, cap, pn, hD⟩ := hD
  have hi : i < s.length := (List.getElem?_eq_some_iff.1 hx).1
  have C := hid (find_yes hD i (isB_of (by omega)))
  have h0 := hD.nodesCell
  obtain ⟨r, hr, ho, c0, c1, c2, c3⟩ := hD.look hx
  rw [hp] at c0
  clear hD c1 c2 c3 hr ho hx hp hbig
  go_enter Tryz.func97, Tryz.ntmps97
  go_wp2_with (go_at_call 87; refine C.out.mono ?_; rintro e w1 ⟨rfl, rfl⟩)
  go_ret2
  exact ⟨rfl, Keeps.refl _ _, HD.out.wider (fun b h => .inl h)⟩

theorem intsV_eq (l : List Nat) : (l.map Int.ofNat).map (Value.int .i64) = intsV l := by
  simp [intsV]

/-- What slices.Delete leaves of one node's list. -/
theorem PForAt.deleted {bn cap : Nat} {pn : List PN} (h : PForAt w F bf bn cap pn s) {j g c m : Nat} {r : PN} {y : Nd} (hr : pn[j]? = some r) (hy : s[j]? = some y) (hv : r.kv = .slice (some ⟨g, 0, none⟩) y.ks.length c) (hml : m < y.ks.length) (q : Nat) :
    PForAt ((w.drewN q).setCells g 0 ((((y.ks.map Int.ofNat).take y.ks.length).take m ++ ((y.ks.map Int.ofNat).take y.ks.length).drop (m + 1) ++ List.replicate (m + 1 - m) 0).map (Value.int .i64))) F bf bn cap pn (s.set j { y with ks := y.ks.take m ++ y.ks.drop (m + 1) ++ [0] }) ∧
      Keeps (fun b => b = g) w ((w.drewN q).setCells g 0 ((((y.ks.map Int.ofNat).take y.ks.length).take m ++ ((y.ks.map Int.ofNat).take y.ks.length).drop (m + 1) ++ List.replicate (m + 1 - m) 0).map (Value.int .i64))) := by
  have e : ((((y.ks.map Int.ofNat).take y.ks.length).take m ++ ((y.ks.map Int.ofNat).take y.ks.length).drop (m + 1) ++ List.replicate (m + 1 - m) 0).map (Value.int .i64)) = intsV (y.ks.take m ++ y.ks.drop (m + 1) ++ [0]) := by
    have e1 : m + 1 - m = 1 := by omega
    have e2 : (y.ks.map Int.ofNat).take y.ks.length = y.ks.map Int.ofNat := List.take_of_length_le (by simp)
    rw [e1, e2, ← List.map_take, ← List.map_drop, ← intsV_eq]
    simp
  rw [e]
  have ho := h.ok j r y hr hy
  have hk0 : Keeps (fun b => b = g) w (w.drewN q) := ⟨rfl, rfl, rfl, Nat.le_refl _, fun _ _ _ => rfl⟩
  have hk : Keeps (fun b => b = g) w ((w.drewN q).setCells g 0 (intsV (y.ks.take m ++ y.ks.drop (m + 1) ++ [0]))) := keeps_setCells g _ 0 _ hk0 rfl
  refine ⟨h.newRow hr hy (by rw [hv]; rfl) hk ?_, hk⟩
  obtain ⟨h1, h2⟩ := ho.kids
  rw [hv] at h2 ⊢
  rcases h2 with ⟨h3, _⟩ | ⟨g', cap', cur, hv', hg, hh, hn, hc, hs, ht⟩
  · cases h3
  · cases hv'
    have hlen : (y.ks.take m ++ y.ks.drop (m + 1) ++ [0]).length = y.ks.length := by simp; omega
    obtain ⟨cur', k1, k2, k3⟩ := heap_setCells g 3 (intsV (y.ks.take m ++ y.ks.drop (m + 1) ++ [0])) 0 (w.drewN q) cur hh (by rw [intsV_length, hlen]; omega)
    refine ⟨by rw [intsV_length]; omega, .inr ⟨g, c, cur', by rw [hlen], hg, k1, by rw [hlen]; exact hn, hc, by omega, ?_⟩⟩
    rw [k3]
    simp only [List.take_zero, List.nil_append, Nat.mul_one]
    rw [List.take_append_of_le_length (by simp), List.take_of_length_le (by simp)]

theorem PForAt.cellsThere {bn cap : Nat} {pn : List PN} (h : PForAt w F bf bn cap pn s) {i k : Nat} (hi : i < s.length) (hk : k < 4) : ∃ v, w.cell? ⟨bn, i * 4 + k, none⟩ = some v ∧ w.frozen? ⟨bn, i * 4 + k, none⟩ = false := by
  have hip : i < pn.length := by rw [h.len]; exact hi
  have h1 := h.cellAt (List.getElem?_eq_getElem hip) k hk
  refine ⟨(pn[i].cells)[k]'(by simpa [PN.cells] using hk), by rw [h1]; exact List.getElem?_eq_getElem _, ?_⟩
  obtain ⟨_, h2⟩ := h.nodes
  rcases h2 with ⟨h3, _⟩ | ⟨g, c, cur, hv, _, hh, _⟩
  · cases h3
  · cases hv
    exact frozen_of_heap hh _

/-- The two stores behind slices.Delete. -/
theorem PForAt.afterDelete {bn cap : Nat} {pn : List PN} (h : PForAt w F bf bn cap pn s) {i j g c m : Nat} {r : PN} {x y : Nd} (hr : pn[j]? = some r) (hv : r.kv = .slice (some ⟨g, 0, none⟩) y.ks.length c) (hx : s[i]? = some x) (hy : s[j]? = some y) (ha : F g ∧ g ≠ bf ∧ g ≠ bn) (hml : m < y.ks.length) (hij : i ≠ j) {w2 : World}
    (h2 : PForAt w2 F bf bn cap pn (s.set j { y with ks := y.ks.take m ++ y.ks.drop (m + 1) ++ [0] })) (hk : Keeps (fun b => b = g) w w2) :
    TPost F w bf ((s.set j { y with ks := y.ks.take m ++ y.ks.drop (m + 1) }).set i { x with p := -1 }) .nilIface (.returned .nilIface) ((w2.setCell ⟨bn, j * 4 + 2, none⟩ (.slice (some ⟨g, 0, none⟩) (y.ks.length - (m + 1 - m)) c)).setCell ⟨bn, i * 4, none⟩ (.int .i64 (-1))) := by
  have hjl : j < s.length := (List.getElem?_eq_some_iff.1 hy).1
  have hlen : (y.ks.take m ++ y.ks.drop (m + 1)).length + 1 = y.ks.length := by simp; omega
  have hy2 : (s.set j { y with ks := y.ks.take m ++ y.ks.drop (m + 1) ++ [0] })[j]? = some { y with ks := y.ks.take m ++ y.ks.drop (m + 1) ++ [0] } := by simp [hjl]
  have ho := h2.ok j r _ hr hy2
  have hk0 := ho.kids
  simp only [hv] at hk0
  have hrow : w2.ownsRow 0 3 1 (.slice (some ⟨g, 0, none⟩) (y.ks.length - (m + 1 - m)) c) (y.ks.take m ++ y.ks.drop (m + 1)).length (intsV (y.ks.take m ++ y.ks.drop (m + 1))) := by
    have e1 : y.ks.length - (m + 1 - m) = (y.ks.take m ++ y.ks.drop (m + 1)).length := by omega
    rw [e1]
    refine ownsRow_pop (last := [.int .i64 0]) (by simp) ?_
    have e2 : intsV (y.ks.take m ++ y.ks.drop (m + 1) ++ [0]) = intsV (y.ks.take m ++ y.ks.drop (m + 1)) ++ [.int .i64 0] := by simp [intsV]
    have e3 : (y.ks.take m ++ y.ks.drop (m + 1) ++ [0]).length = (y.ks.take m ++ y.ks.drop (m + 1)).length + 1 := by simp; omega
    rw [e2, e3, ← hlen] at hk0
    exact hk0
  have h3 := h2.setNode (r' := { r with kv := .slice (some ⟨g, 0, none⟩) (y.ks.length - (m + 1 - m)) c }) (x' := { y with ks := y.ks.take m ++ y.ks.drop (m + 1) }) hr hy2 2 (by omega) _ rfl ⟨ho.t, ho.p, ho.ch, hrow, fun b e => by cases e; exact ha⟩
    (fun k r1 hk1 h1 b e => by cases e; exact h.sep j k r r1 (fun e => hk1 e.symm) hr h1 g (by rw [hv]; rfl))
  rw [List.set_set] at h3
  have hx3 : (s.set j { y with ks := y.ks.take m ++ y.ks.drop (m + 1) })[i]? = some x := by rw [List.getElem?_set_ne (fun e => hij e.symm)]; exact hx
  obtain ⟨pn4, h4⟩ := h3.newPar (-1) hx3
  refine ⟨rfl, ?_, bn, cap, pn4, h4.wider (fun b hb => .inl hb)⟩
  exact ((hk.mono (fun k _ e => by cases e; exact ha.1)).setCell (p := ⟨bn, j * 4 + 2, none⟩) (.inl h.Fn) _).setCell (p := ⟨bn, i * 4, none⟩) (.inl h.Fn) _

set_option maxHeartbeats 1000000 in
/-- Which child of its parent a node is. -/
theorem tindex_at {bn cap : Nat} {pn : List PN} (hD : PForAt w F bf bn cap pn s) (i j m : Nat) (x y : Nd) (hx : s[i]? = some x) (hj : x.p = j) (hy : s[j]? = some y) (hm : y.ks[m]? = some i) (hno : i ∉ y.ks.take m) (hbig : s.length < lots) (hkb : y.ks.length < lots) :
    Calls Tryz.prog 106 #[ptr bf, .int .i64 i] w fun e w' => e = .returned (.int .i64 m) ∧ Drawn w w' := by
  have hi : i < s.length := (List.getElem?_eq_some_iff.1 hx).1
  have hjl : j < s.length := (List.getElem?_eq_some_iff.1 hy).1
  have hml : m < y.ks.length := (List.getElem?_eq_some_iff.1 hm).1
  have h0 := hD.nodesCell
  obtain ⟨r, hr, ho, c0, c1, c2, c3⟩ := hD.look hx
  obtain ⟨r2, hr2, ho2, d0, d1, d2, d3⟩ := hD.look hy
  obtain ⟨g, cp, cur, hv, hh, hn, hc, hcs, ht, hcell, hfr⟩ := row_ints ho2.kids (by intro e; rw [e] at hml; simp at hml)
  rw [hv] at d2
  rw [hj] at c0
  have C2 := hid (fun q => Tryz.slices_Index_int g 0 y.ks.length cp (y.ks.map Int.ofNat) (i : Int) (w.drewN q) (by simp) (by unfold lots at hkb; omega) hcell)
  rw [idxOf_first y.ks m i hm hno] at C2
  have hlt := hD.lt
  clear hD c1 c2 c3 d0 d1 d3 hr ho ho2 hr2 hcell hfr hh hc hcs ht hv hno hm hx hy hbig hkb
  go_enter Tryz.func106, Tryz.ntmps106
  go_wp2
  go_quiet ((go_at_call 155; exact Calls.quiet_of_same (C2.out _)))
  go_wp2
  go_ret
  exact ⟨rfl, nq, rfl⟩

set_option maxRecDepth 20000 in
set_option maxHeartbeats 1000000 in
/-- The place directly ahead of a node. -/
theorem tahead_at {bn cap : Nat} {pn : List PN} (hD : PForAt w F bf bn cap pn s) (i j m : Nat) (x y : Nd) (hx : s[i]? = some x) (hj : x.p = j) (hy : s[j]? = some y) (hm : y.ks[m]? = some i) (hno : i ∉ y.ks.take m) (hbig : s.length < lots) (hkb : y.ks.length < lots) :
    Calls Tryz.prog 149 #[ptr bf, .int .i64 i] w fun e w' => e = .returned (.agg #[.int .i64 j, .int .i64 m]) ∧ Below w.heap.size w w' := by
  have hi : i < s.length := (List.getElem?_eq_some_iff.1 hx).1
  have h0 := hD.nodesCell
  obtain ⟨r, hr, ho, c0, c1, c2, c3⟩ := hD.look hx
  rw [hj] at c0
  have C2 := hid (fun W (hB : Below w.heap.size w W) => tindex_at (hD.below hB) i j m x y hx hj hy hm hno hbig hkb)
  have hlt := hD.lt
  have HB1 := hid (show Below w.heap.size w (w.alloc (.cells #[.int .i64 0, .int .i64 0] 37)) from (Below.refl _ w).alloc (Nat.le_refl _) _)
  have hnn : ¬ bn = w.heap.size := by omega
  have hnf : ¬ bf = w.heap.size := by omega
  clear hD c1 c2 c3 hr ho hno hm hx hy hbig hkb
  go_enter Tryz.func149, Tryz.ntmps149
  go_wp2
  go_region_with ((
    go_at_call 106
    refine (C2.out _ ?_).mono ?_
    · first | exact below_drewN HB1.out _ | exact HB1.out.drew
    rintro e w1 ⟨rfl, q0, rfl⟩))
  all_goals
    go_wp2
    refine bodyPost_ret (v := .agg #[.int .i64 (j : Int), .int .i64 (m : Int)]) (by simp [results, Tryz.results149, go_sem]) rfl ?_
    refine ⟨rfl, ?_⟩
    go_grown
    all_goals first | exact below_drewN (HB1.out.drew) _ | exact below_drewN (below_drewN HB1.out _) _ | exact below_drewN HB1.out _ | exact HB1.out.drew

set_option maxRecDepth 20000 in
set_option maxHeartbeats 2000000 in
theorem tremove_done (hD : PFor w F bf s) (i j m : Nat) (x y : Nd) (hx : s[i]? = some x) (hj : x.p = j) (hy : s[j]? = some y) (hm : y.ks[m]? = some i) (hno : i ∉ y.ks.take m) (hij : i ≠ j) (hbig : s.length < lots) (hkb : y.ks.length < lots) (wf2 : WF ((s.set j { y with ks := y.ks.take m ++ y.ks.drop (m + 1) }).set i { x with p := -1 })) {h2 : Nat → Nat} {H2 : Nat} (u2 : Up ((s.set j { y with ks := y.ks.take m ++ y.ks.drop (m + 1) }).set i { x with p := -1 }) h2 H2) :
    Calls Tryz.prog 97 #[ptr bf, .int .i64 i] w (TMv (gatherF (allF ((s.set j { y with ks := y.ks.take m ++ y.ks.drop (m + 1) }).set i { x with p := -1 }) (h2 i + 1) i) j m (shiftF j m (-1))) F w bf ((s.set j { y with ks := y.ks.take m ++ y.ks.drop (m + 1) }).set i { x with p := -1 })) := by
  obtain ⟨bn, cap, pn, hD⟩ := hD
  have hi : i < s.length := (List.getElem?_eq_some_iff.1 hx).1
  have hjl : j < s.length := (List.getElem?_eq_some_iff.1 hy).1
  have hml : m < y.ks.length := (List.getElem?_eq_some_iff.1 hm).1
  have C := hid (find_yes hD i (isB_of (by omega)))
  have h0 := hD.nodesCell
  obtain ⟨r, hr, ho, c0, c1, c2, c3⟩ := hD.look hx
  obtain ⟨r2, hr2, ho2, d0, d1, d2, d3⟩ := hD.look hy
  obtain ⟨g, cp, cur, hv, hh, hn, hc, hcs, ht, hcell, hfr⟩ := row_ints ho2.kids (by intro e; rw [e] at hml; simp at hml)
  rw [hv] at d2
  rw [hj] at c0
  have hneg : ((j : Int) == -1) = false := by simp
  have C2 := hid (tahead_at hD i j m x y hx hj hy hm hno hbig hkb)
  have C3 := hid (fun W (hB : Below w.heap.size w W) => Tryz.slices_Delete_int_cells g 0 y.ks.length cp m (m + 1) (y.ks.map Int.ofNat) W (by simp) hn (by unfold maxLen at hc; omega) (by omega) (by omega) (fun k hk => (hB.cell (p := ⟨g, 0 + k, none⟩) (heap_lt hh)).trans (hcell k hk)) (fun k hk => frozen_of_heap ((hB.block g (heap_lt hh)).trans hh) _))
  rw [show ((m + 1 : Nat) : Int) = (m : Int) + 1 from by omega] at C3
  have HDEL := hid (fun W (hB : Below w.heap.size w W) q => (hD.below hB).deleted hr2 hy hv hml q)
  have hgl : g < w.heap.size := heap_lt hh
  have hapart := (ho2.apart g (by rw [hv]; rfl))
  have hlt := hD.lt
  have hbfn : ¬ bf = bn := hD.ne
  have hgn : ¬ bn = g := fun e => hapart.2.2 e.symm
  have hgf : ¬ bf = g := fun e => hapart.2.1 e.symm
  have HALL := hid (And.intro hr2 (And.intro hv (And.intro hx (And.intro hy (And.intro hapart hD)))))
  have hm64 : (m : Int) + 1 ≤ 9223372036854775807 := by unfold lots at hkb; omega
  have hwm : IntKind.i64.wrap ((m : Int) + 1) = (m : Int) + 1 := by rw [IntKind.wrap_i64]; omega
  have WF2 := hid wf2
  clear wf2
  clear hD c1 c2 c3 d0 d1 d3 hr ho ho2 hr2 hcell hfr hh hc hcs ht hapart hv hno hm hx hy hbig hkb
  go_enter Tryz.func97, Tryz.ntmps97
  go_wp2_with first
    | (go_at_call 87; refine C.out.mono ?_; rintro e w0 ⟨rfl, hw0⟩; replace hw0 := hw0.symm; subst hw0)
    | (go_at_call 149; refine C2.out.mono ?_; rintro e w1 ⟨rfl, hb1⟩
       have h0' := (hb1.cell (p := ⟨bf, 0, none⟩) hlt.1).trans h0
       have d2' := (hb1.cell (p := ⟨bn, j * 4 + 2, none⟩) hlt.2).trans d2
       have hz1 := hb1.size
       have HB1 := hid hb1
       have hbA := hb1.alloc hb1.size (.cells #[.int .i64 (j : Int), .int .i64 (m : Int)] 37)
       have h0A := (hbA.cell (p := ⟨bf, 0, none⟩) hlt.1).trans h0
       have d2A := (hbA.cell (p := ⟨bn, j * 4 + 2, none⟩) hlt.2).trans d2
       have HBA := hid hbA.drew
       clear hb1 hbA)
  go_region
  go_wp2
  go_cut [] from 39 to 51 (fun wc => ∃ w2, wc = w2.setCell ⟨bn, j * 4 + 2, none⟩ (.slice (some ⟨g, 0, none⟩) (y.ks.length - 1) cp) ∧ PForAt w2 F bf bn cap pn (s.set j { y with ks := y.ks.take m ++ y.ks.drop (m + 1) ++ [0] }) ∧ Keeps (fun b => b = g) w w2 ∧ w2.heap[w1.heap.size]? = some (.cells #[.int .i64 (j : Int), .int .i64 (m : Int)] 37 (0, 0)))
  case first =>
    go_region_with ((
       go_at_call 150
       refine (C3.out _ HBA.out.drew).mono ?_
       rintro e w2 ⟨rfl, q, hw2⟩
       have hq := HDEL.out _ HBA.out.drew q
       rw [← hw2] at hq
       obtain ⟨hD2, hk2'⟩ := hq
       have hk2 : Keeps (fun b => b = g) w w2 := (Keeps.of_below HBA.out.drew).trans (hk2'.mono (fun k _ e => .inl e))
       have hq2 : w2.heap[w1.heap.size]? = some (.cells #[.int .i64 (j : Int), .int .i64 (m : Int)] 37 (0, 0)) := (hk2'.block w1.heap.size (by simp) (by omega)).trans (heap_alloc_new w1 _)
       obtain ⟨v2, f2, f2f⟩ := hD2.cellsThere (i := j) (k := 2) (by rw [List.length_set]; exact hjl) (by omega)
       have HC := hid (And.intro hD2 (And.intro hk2 hq2))
       clear hw2 hk2' hq2 hD2 hk2))
    all_goals
      go_wp2_with fail
      go_meet
      case rel => exact ⟨w2, by first | rfl | (congr 2; omega) | simp, HC.out.1, HC.out.2.1, HC.out.2.2⟩
  case rest =>
  obtain ⟨w2, rfl, hD2, hk2, hq2⟩ := hcut
  have lc0 : w2.cell? ⟨w1.heap.size, 0, none⟩ = some (.int .i64 (j : Int)) := cell_of_heap hq2 0
  have lc1 : w2.cell? ⟨w1.heap.size, 1, none⟩ = some (.int .i64 (m : Int)) := cell_of_heap hq2 1
  have hlq := heap_lt hq2
  have HQ2 := hid hq2
  have hbw : ¬ bn = w1.heap.size := by omega
  have AFT := hid (HALL.out.2.2.2.2.2.afterDelete HALL.out.1 HALL.out.2.1 HALL.out.2.2.1 HALL.out.2.2.2.1 HALL.out.2.2.2.2.1 hml hij hD2 hk2)
  have f0 := hD2.nodesCell
  rw [List.length_set] at f0
  obtain ⟨v2, f2, f2f⟩ := hD2.cellsThere (i := j) (k := 2) (by rw [List.length_set]; exact hjl) (by omega)
  obtain ⟨v3, f3, f3f⟩ := hD2.cellsThere (i := i) (k := 0) (by rw [List.length_set]; exact hi) (by omega)
  rw [Nat.add_zero] at f3 f3f
  clear hD2 hk2 hq2
  go_wp2_with first
    | (go_at_call 90
       have hA := AFT.out
       have e1 : m + 1 - m = 1 := by omega
       rw [e1] at hA
       obtain ⟨_, hkA, bnA, capA, pnA, hfA⟩ := hA
       have AFT2 := hid (And.intro hkA hfA)
       have COL := hid (collect_all WF2.out u2 hfA (h2 i + 1) i (by simpa using hi) (Nat.lt_succ_self _))
       simp only [World.size_setCell] at COL
       clear hkA hfA
       refine (all_any bf i _).mono ?_; rintro e w3 ⟨rfl, rfl⟩)
    | (go_at_call 89
       refine COL.out.mono ?_
       rintro e w4 ⟨a4, c4, rfl, hb4, hr4, hg4⟩
       have hq4 := (hb4.block w1.heap.size hlq).trans ((Below.heap_setCell _ _ _ _ (fun e => hbw e.symm)).trans ((Below.heap_setCell _ _ _ _ (fun e => hbw e.symm)).trans HQ2.out))
       have lc40 : w4.cell? ⟨w1.heap.size, 0, none⟩ = some (.int .i64 (j : Int)) := cell_of_heap hq4 0
       have lc41 : w4.cell? ⟨w1.heap.size, 1, none⟩ = some (.int .i64 (m : Int)) := cell_of_heap hq4 1
       have hlq4 := heap_lt hq4
       have HQ4 := hid hq4
       have B4 := hid hb4
       have R4 := hid (And.intro hr4 hg4)
       clear hb4 hr4 hg4 hq4)
  go_region_held3 (fun w' => w'.cell? ⟨w1.heap.size, 0, none⟩ = some (.int .i64 (j : Int)) ∧ w'.cell? ⟨w1.heap.size, 1, none⟩ = some (.int .i64 (m : Int))) (first | exact ⟨lc60, lc61⟩ | exact ⟨lc50, lc51⟩ | go_keep) (first
    | (go_at_call 151
       refine (gather_at _ _ _ _ _ _ _ _ _ _ _ w2.heap.size _ ((Keeps.of_below (F := fun _ => False) HB5.out).row R4.out.1 (fun _ _ e => e)) R4.out.2 (by simp [allF]) (by have := all_length WF2.out (h2 i + 1) i (by simpa using hi); unfold lots; omega) H5.out.1 H5.out.2 (by have := HB5.out.size; have hz4 := B4.out.size; simp only [World.size_setCell] at hz4; omega)).mono ?_
       rintro e w6 ⟨mv6, rfl, hb6, hM6⟩
       have hq6 := (hb6.block w1.heap.size hlq5).trans HQ5.out
       have lc60 : w6.cell? ⟨w1.heap.size, 0, none⟩ = some (.int .i64 (j : Int)) := cell_of_heap hq6 0
       have lc61 : w6.cell? ⟨w1.heap.size, 1, none⟩ = some (.int .i64 (m : Int)) := cell_of_heap hq6 1
       have H6 := hid (And.intro hM6 hb6)
       clear hM6 hb6 hq6)
    | (go_at_call 109
       refine (shift_at _ _ _ (by decide) (by decide) _).mono ?_
       rintro e w5 ⟨x5, y5, z5, rfl, hb5, hS5, l51, l52, l53⟩
       have hB5 : Below w4.heap.size w4 w5 := ⟨hb5.os, hb5.tape, hb5.output, hb5.size, hb5.block⟩
       have hq5 := (hB5.block w1.heap.size hlq4).trans HQ4.out
       have lc50 : w5.cell? ⟨w1.heap.size, 0, none⟩ = some (.int .i64 (j : Int)) := cell_of_heap hq5 0
       have lc51 : w5.cell? ⟨w1.heap.size, 1, none⟩ = some (.int .i64 (m : Int)) := cell_of_heap hq5 1
       have hlq5 := heap_lt hq5
       have HQ5 := hid hq5
       have hz4 := B4.out.size
       have HB5 := hid hB5
       have L1 : w4.heap.size ≤ x5 := l51
       have L2 : w4.heap.size ≤ y5 := l52
       have L3 : w4.heap.size ≤ z5 := l53
       have H5 := hid (And.intro hS5 (And.intro (show w2.heap.size ≤ x5 by simp only [World.size_setCell] at hz4; omega) (And.intro (show w2.heap.size ≤ y5 by simp only [World.size_setCell] at hz4; omega) (show w2.heap.size ≤ z5 by simp only [World.size_setCell] at hz4; omega))))
       clear hS5 l51 l52 l53 hq5 L1 L2 L3 hb5 hB5 hz4))
  all_goals
   go_wp2
   go_ret2
   obtain ⟨hkA, hfA⟩ := AFT2.out
   have hb4 := B4.out
   have hz4 := hb4.size
   simp only [World.size_setCell] at hz4
   have hb5 := HB5.out
   have hb6 := H6.out.2
   have hz5 := hb5.size
   have hz6 := hb6.size
   have hzk := hkA.size
   simp only [World.size_setCell] at hzk
   rw [← World.size_setCell w2 ⟨bn, j * 4 + 2, none⟩ (.slice (some ⟨g, 0, none⟩) (y.ks.length - 1) cp), ← World.size_setCell (w2.setCell ⟨bn, j * 4 + 2, none⟩ (.slice (some ⟨g, 0, none⟩) (y.ks.length - 1) cp)) ⟨bn, i * 4, none⟩ (.int .i64 (-1))] at hb4
   have hb := (hb4.trans (hb5.mono hb4.size)).trans (hb6.mono (Nat.le_trans hb4.size hb5.size))
   refine ⟨_, w2.heap.size, rfl, hkA.trans (Keeps.of_below hb), hzk, by omega, ⟨_, _, _, (hfA.narrow.below hb).wider (fun b h => ?_)⟩, H6.out.1⟩
   have hb2 := h.2
   simp only [World.size_setCell] at hb2
   rcases h.1 with e | e
   · exact .inl e
   · exact .inr ⟨e, hb2⟩
end

end Go.Proofs.YtabogkonklplcaaGreatDoor
