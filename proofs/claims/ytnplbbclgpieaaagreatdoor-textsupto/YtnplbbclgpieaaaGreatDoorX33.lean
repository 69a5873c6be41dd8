import Derived.Test.YtnplbbclgpieaaaGreatDoorX25
import Derived.Test.YtnplbbclgpieaaaGreatDoorX29
import Derived.Test.YtnplbbclgpieaaaGreatDoorX32
import Derived.BigQuiet
import Derived.Test.YtnplbbclgpieaaaGreatDoorX28
import Derived.Test.YtnplbbclgpieaaaGreatDoorX24

/- tree.Remove; the document's answers at Remove. -/
namespace Go.Proofs.YtnplbbclgpieaaaGreatDoor
open Go.RowKit
set_option linter.unusedSimpArgs false
set_option linter.unusedVariables false

theorem idxOf_first (l : List Nat) (m i : Nat) (hm : l[m]? = some i) (hno : i ∉ l.take m) : Lib.idxOf ((l.map Int.ofNat).take l.length) (i : Int) = (m : Int) := by
  have hml := (List.getElem?_eq_some_iff.1 hm).1
  have hmi : l[m] = i := (List.getElem?_eq_some_iff.1 hm).2
  have h := Lib.idxOf_hit (l.map Int.ofNat) l.length m (i : Int) hml (by simp) (by simp [List.getD, hm]) (by
    intro j hj e
    have hjl : j < l.length := by omega
    have e2 : l[j] = i := by
      have : (l.map Int.ofNat).getD j 0 = (l[j] : Int) := by simp [List.getD, hjl]
      rw [this] at e
      exact Int.ofNat.inj e
    exact hno (List.mem_take_iff_getElem.2 ⟨j, by omega, e2⟩))
  exact h

theorem cell_drewN (w : World) (q : Nat) (a : Addr) : (w.drewN q).cell? a = w.cell? a := rfl
theorem Keeps.undrawn {F : Nat → Prop} {w w' : World} {q : Nat} (h : Keeps F (w.drewN q) w') : Keeps F w w' := ⟨h.os, h.tape, h.output, h.size, h.block⟩

section
variable {w : World} {F : Nat → Prop} {bf : Nat} {s : List Nd}

set_option maxHeartbeats 400000 in
theorem tremove_node (hD : PFor w F bf s) (n : Int) (h : isB s n = false) : Calls Tryz.prog 69 #[ptr bf, .int .i64 n] w (TPost F w bf s (.tuple #[.nilFunc, refusalV n 1])) := by
  have HD := hid hD
  obtain ⟨bn, cap, pn, hD⟩ := hD
  have C := hid (find_no hD n h)
  clear hD h
  go_enter Tryz.func69, Tryz.ntmps69
  go_wp2_with (go_at_call 56; refine C.out.mono ?_; rintro e w1 ⟨rfl, rfl⟩)
  go_ret2
  exact ⟨rfl, Keeps.refl _ _, HD.out.wider (fun b h => .inl h)⟩

set_option maxHeartbeats 1000000 in
theorem tremove_none (hD : PFor w F bf s) (i : Nat) (x : Nd) (hx : s[i]? = some x) (hp : x.p = -1) (hbig : s.length < lots) : Calls Tryz.prog 69 #[ptr bf, .int .i64 i] w (TPost F w bf s (.tuple #[.nilFunc, refusalV i 4])) := by
  have HD := hid hD
  obtain ⟨bn, cap, pn, hD⟩ := hD
  have hi : i < s.length := (List.getElem?_eq_some_iff.1 hx).1
  have C := hid (find_yes hD i (isB_of (by omega)))
  have h0 := hD.nodesCell
  obtain ⟨r, hr, ho, c0, c1, c2, c3⟩ := hD.look hx
  rw [hp] at c0
  clear hD c1 c2 c3 hr ho hx hp hbig
  go_enter Tryz.func69, Tryz.ntmps69
  go_wp2_with (go_at_call 56; refine C.out.mono ?_; rintro e w1 ⟨rfl, rfl⟩)
  go_ret2
  exact ⟨rfl, Keeps.refl _ _, HD.out.wider (fun b h => .inl h)⟩

theorem intsV_eq (l : List Nat) : (l.map Int.ofNat).map (Value.int .i64) = intsV l := by
  simp [intsV]

/-- What slices.Delete leaves of one node's list. -/
theorem PForAt.deleted {bn cap : Nat} {pn : List PN} (h : PForAt w F bf bn cap pn s) {j g c m : Nat} {r : PN} {y : Nd} (hr : pn[j]? = some r) (hy : s[j]? = some y) (hv : r.kv = .slice (some ⟨g, 0, none⟩) y.ks.length c) (hml : m < y.ks.length) (q : Nat) :
    PForAt ((w.drewN q).setCells g 0 ((((y.ks.map Int.ofNat).take y.ks.length).take m ++ ((y.ks.map Int.ofNat).take y.ks.length).drop (m + 1) ++ List.replicate (m + 1 - m) 0).map (Value.int .i64))) F bf bn cap pn (s.set j { y with ks := y.ks.take m ++ y.ks.drop (m + 1) ++ [0] }) ∧
      Keeps (fun b => b = g) w ((w.drewN q).setCells g 0 ((((y.ks.map Int.ofNat).take y.ks.length).take m ++ ((y.ks.map Int.ofNat).take y.ks.length).drop (m + 1) ++ List.replicate (m + 1 - m) 0).map (Value.int .i64))) := by
  have e : ((((y.ks.map Int.ofNat).take y.ks.length).take m ++ ((y.ks.map Int.ofNat).take y.ks.length).drop (m + 1) ++ List.replicate (m + 1 - m) 0).map (Value.int .i64)) = intsV (y.ks.take m ++ y.ks.drop (m + 1) ++ [0]) := by
    have e1 : m + 1 - m = 1 := by omega
    have e2 : (y.ks.map Int.ofNat).take y.ks.length = y.ks.map Int.ofNat := List.take_of_length_le (by simp)
    rw [e1, e2, ← List.map_take, ← List.map_drop, ← intsV_eq]
    simp
  rw [e]
  have ho := h.ok j r y hr hy
  have hk0 : Keeps (fun b => b = g) w (w.drewN q) := ⟨rfl, rfl, rfl, Nat.le_refl _, fun _ _ _ => rfl⟩
  have hk : Keeps (fun b => b = g) w ((w.drewN q).setCells g 0 (intsV (y.ks.take m ++ y.ks.drop (m + 1) ++ [0]))) := keeps_setCells g _ 0 _ hk0 rfl
  refine ⟨h.newRow hr hy (by rw [hv]; rfl) hk ?_, hk⟩
  obtain ⟨h1, h2⟩ := ho.kids
  rw [hv] at h2 ⊢
  rcases h2 with ⟨h3, _⟩ | ⟨g', cap', cur, hv', hg, hh, hn, hc, hs, ht⟩
  · cases h3
  · cases hv'
    have hlen : (y.ks.take m ++ y.ks.drop (m + 1) ++ [0]).length = y.ks.length := by simp; omega
    obtain ⟨cur', k1, k2, k3⟩ := heap_setCells g 3 (intsV (y.ks.take m ++ y.ks.drop (m + 1) ++ [0])) 0 (w.drewN q) cur hh (by rw [intsV_length, hlen]; omega)
    refine ⟨by rw [intsV_length]; omega, .inr ⟨g, c, cur', by rw [hlen], hg, k1, by rw [hlen]; exact hn, hc, by omega, ?_⟩⟩
    rw [k3]
    simp only [List.take_zero, List.nil_append, Nat.mul_one]
    rw [List.take_append_of_le_length (by simp), List.take_of_length_le (by simp)]

theorem PForAt.cellsThere {bn cap : Nat} {pn : List PN} (h : PForAt w F bf bn cap pn s) {i k : Nat} (hi : i < s.length) (hk : k < 4) : ∃ v, w.cell? ⟨bn, i * 4 + k, none⟩ = some v ∧ w.frozen? ⟨bn, i * 4 + k, none⟩ = false := by
  have hip : i < pn.length := by rw [h.len]; exact hi
  have h1 := h.cellAt (List.getElem?_eq_getElem hip) k hk
  refine ⟨(pn[i].cells)[k]'(by simpa [PN.cells] using hk), by rw [h1]; exact List.getElem?_eq_getElem _, ?_⟩
  obtain ⟨_, h2⟩ := h.nodes
  rcases h2 with ⟨h3, _⟩ | ⟨g, c, cur, hv, _, hh, _⟩
  · cases h3
  · cases hv
    exact frozen_of_heap hh _

/-- The two stores behind slices.Delete. -/
theorem PForAt.afterDelete {bn cap : Nat} {pn : List PN} (h : PForAt w F bf bn cap pn s) {i j g c m : Nat} {r : PN} {x y : Nd} (hr : pn[j]? = some r) (hv : r.kv = .slice (some ⟨g, 0, none⟩) y.ks.length c) (hx : s[i]? = some x) (hy : s[j]? = some y) (ha : F g ∧ g ≠ bf ∧ g ≠ bn) (hml : m < y.ks.length) (hij : i ≠ j) {w2 : World}
    (h2 : PForAt w2 F bf bn cap pn (s.set j { y with ks := y.ks.take m ++ y.ks.drop (m + 1) ++ [0] })) (hk : Keeps (fun b => b = g) w w2) :
    TPost F w bf ((s.set j { y with ks := y.ks.take m ++ y.ks.drop (m + 1) }).set i { x with p := -1 }) .nilIface (.returned .nilIface) ((w2.setCell ⟨bn, j * 4 + 2, none⟩ (.slice (some ⟨g, 0, none⟩) (y.ks.length - (m + 1 - m)) c)).setCell ⟨bn, i * 4, none⟩ (.int .i64 (-1))) := by
  have hjl : j < s.length := (List.getElem?_eq_some_iff.1 hy).1
  have hlen : (y.ks.take m ++ y.ks.drop (m + 1)).length + 1 = y.ks.length := by simp; omega
  have hy2 : (s.set j { y with ks := y.ks.take m ++ y.ks.drop (m + 1) ++ [0] })[j]? = some { y with ks := y.ks.take m ++ y.ks.drop (m + 1) ++ [0] } := by simp [hjl]
  have ho := h2.ok j r _ hr hy2
  have hk0 := ho.kids
  simp only [hv] at hk0
  have hrow : w2.ownsRow 0 3 1 (.slice (some ⟨g, 0, none⟩) (y.ks.length - (m + 1 - m)) c) (y.ks.take m ++ y.ks.drop (m + 1)).length (intsV (y.ks.take m ++ y.ks.drop (m + 1))) := by
    have e1 : y.ks.length - (m + 1 - m) = (y.ks.take m ++ y.ks.drop (m + 1)).length := by omega
    rw [e1]
    refine ownsRow_pop (last := [.int .i64 0]) (by simp) ?_
    have e2 : intsV (y.ks.take m ++ y.ks.drop (m + 1) ++ [0]) = intsV (y.ks.take m ++ y.ks.drop (m + 1)) ++ [.int .i64 0] := by simp [intsV]
    have e3 : (y.ks.take m ++ y.ks.drop (m + 1) ++ [0]).length = (y.ks.take m ++ y.ks.drop (m + 1)).length + 1 := by simp; omega
    rw [e2, e3, ← hlen] at hk0
    exact hk0
  have h3 := h2.setNode (r' := { r with kv := .slice (some ⟨g, 0, none⟩) (y.ks.length - (m + 1 - m)) c }) (x' := { y with ks := y.ks.take m ++ y.ks.drop (m + 1) }) hr hy2 2 (by omega) _ rfl ⟨ho.t, ho.p, ho.ch, hrow, fun b e => by cases e; exact ha⟩
    (fun k r1 hk1 h1 b e => by cases e; exact h.sep j k r r1 (fun e => hk1 e.symm) hr h1 g (by rw [hv]; rfl))
  rw [List.set_set] at h3
  have hx3 : (s.set j { y with ks := y.ks.take m ++ y.ks.drop (m + 1) })[i]? = some x := by rw [List.getElem?_set_ne (fun e => hij e.symm)]; exact hx
  obtain ⟨pn4, h4⟩ := h3.newPar (-1) hx3
  refine ⟨rfl, ?_, bn, cap, pn4, h4.wider (fun b hb => .inl hb)⟩
  exact ((hk.mono (fun k _ e => by cases e; exact ha.1)).setCell (p := ⟨bn, j * 4 + 2, none⟩) (.inl h.Fn) _).setCell (p := ⟨bn, i * 4, none⟩) (.inl h.Fn) _

set_option maxHeartbeats 1000000 in
/-- Which child of its parent a node is. -/
theorem tindex_at {bn cap : Nat} {pn : List PN} (hD : PForAt w F bf bn cap pn s) (i j m : Nat) (x y : Nd) (hx : s[i]? = some x) (hj : x.p = j) (hy : s[j]? = some y) (hm : y.ks[m]? = some i) (hno : i ∉ y.ks.take m) (hbig : s.length < lots) (hkb : y.ks.length < lots) :
    Calls Tryz.prog 111 #[ptr bf, .int .i64 i] w fun e w' => e = .returned (.int .i64 m) ∧ Drawn w w' := by
  have hi : i < s.length := (List.getElem?_eq_some_iff.1 hx).1
  have hjl : j < s.length := (List.getElem?_eq_some_iff.1 hy).1
  have hml : m < y.ks.length := (List.getElem?_eq_some_iff.1 hm).1
  have h0 := hD.nodesCell
  obtain ⟨r, hr, ho, c0, c1, c2, c3⟩ := hD.look hx
  obtain ⟨r2, hr2, ho2, d0, d1, d2, d3⟩ := hD.look hy
  obtain ⟨g, cp, cur, hv, hh, hn, hc, hcs, ht, hcell, hfr⟩ := row_ints ho2.kids (by intro e; rw [e] at hml; simp at hml)
  rw [hv] at d2
  rw [hj] at c0
  have C2 := hid (fun q => Tryz.slices_Index_int g 0 y.ks.length cp (y.ks.map Int.ofNat) (i : Int) (w.drewN q) (by simp) (by unfold lots at hkb; omega) hcell)
  rw [idxOf_first y.ks m i hm hno] at C2
  have hlt := hD.lt
  clear hD c1 c2 c3 d0 d1 d3 hr ho ho2 hr2 hcell hfr hh hc hcs ht hv hno hm hx hy hbig hkb
  go_enter Tryz.func111, Tryz.ntmps111
  go_wp2
  go_quiet ((go_at_call 138; exact Calls.quiet_of_same (C2.out _)))
  go_wp2
  go_ret
  exact ⟨rfl, nq, rfl⟩

set_option maxRecDepth 20000 in
set_option maxHeartbeats 2000000 in
theorem tremove_done (hD : PFor w F bf s) (i j m : Nat) (x y : Nd) (hx : s[i]? = some x) (hj : x.p = j) (hy : s[j]? = some y) (hm : y.ks[m]? = some i) (hno : i ∉ y.ks.take m) (hij : i ≠ j) (hbig : s.length < lots) (hkb : y.ks.length < lots) (wf2 : WF ((s.set j { y with ks := y.ks.take m ++ y.ks.drop (m + 1) }).set i { x with p := -1 })) :
    Calls Tryz.prog 69 #[ptr bf, .int .i64 i] w (TMove (fun _ _ => True) F w bf ((s.set j { y with ks := y.ks.take m ++ y.ks.drop (m + 1) }).set i { x with p := -1 })) := by
  obtain ⟨bn, cap, pn, hD⟩ := hD
  have hi : i < s.length := (List.getElem?_eq_some_iff.1 hx).1
  have hjl : j < s.length := (List.getElem?_eq_some_iff.1 hy).1
  have hml : m < y.ks.length := (List.getElem?_eq_some_iff.1 hm).1
  have C := hid (find_yes hD i (isB_of (by omega)))
  have h0 := hD.nodesCell
  obtain ⟨r, hr, ho, c0, c1, c2, c3⟩ := hD.look hx
  obtain ⟨r2, hr2, ho2, d0, d1, d2, d3⟩ := hD.look hy
  obtain ⟨g, cp, cur, hv, hh, hn, hc, hcs, ht, hcell, hfr⟩ := row_ints ho2.kids (by intro e; rw [e] at hml; simp at hml)
  rw [hv] at d2
  rw [hj] at c0
  have hneg : ((j : Int) == -1) = false := by simp
  have C2 := hid (tindex_at hD i j m x y hx hj hy hm hno hbig hkb)
  have C3 := hid (fun q0 => Tryz.slices_Delete_int_cells g 0 y.ks.length cp m (m + 1) (y.ks.map Int.ofNat) (w.drewN q0) (by simp) hn (by unfold maxLen at hc; omega) (by omega) (by omega) hcell hfr)
  rw [show ((m + 1 : Nat) : Int) = (m : Int) + 1 from by omega] at C3
  have HDEL := hid (fun q0 q => (hD.drewN q0).deleted hr2 hy hv hml q)
  have hapart := (ho2.apart g (by rw [hv]; rfl))
  have hlt := hD.lt
  have hbfn : ¬ bf = bn := hD.ne
  have hgn : ¬ bn = g := fun e => hapart.2.2 e.symm
  have hgf : ¬ bf = g := fun e => hapart.2.1 e.symm
  have HALL := hid (And.intro hr2 (And.intro hv (And.intro hx (And.intro hy (And.intro hapart hD)))))
  have hm64 : (m : Int) + 1 ≤ 9223372036854775807 := by unfold lots at hkb; omega
  obtain ⟨h2, H2, u2⟩ := wf2.up
  have WF2 := hid wf2
  clear wf2
  clear hD c1 c2 c3 d0 d1 d3 hr ho ho2 hr2 hcell hfr hh hc hcs ht hapart hv hno hm hx hy hbig hkb
  go_enter Tryz.func69, Tryz.ntmps69
  go_wp2_with first
    | (go_at_call 56; refine C.out.mono ?_; rintro e w1 ⟨rfl, rfl⟩)
    | (go_at_call 111; refine C2.out.mono ?_; rintro e w1 ⟨rfl, q0, rfl⟩
       have h0' := (cell_drewN _ q0 _).trans h0
       have d2' := (cell_drewN _ q0 _).trans d2)
    | (go_at_call 112; refine (C3.out _).mono ?_; rintro e w2 ⟨rfl, q, hw2⟩
       have hq := HDEL.out q0 q
       rw [← hw2] at hq
       obtain ⟨hD2, hk2'⟩ := hq
       have hk2 := hk2'.undrawn
       clear hw2 hk2'
       have AFT := hid (HALL.out.2.2.2.2.2.afterDelete HALL.out.1 HALL.out.2.1 HALL.out.2.2.1 HALL.out.2.2.2.1 HALL.out.2.2.2.2.1 hml hij hD2 hk2)
       have f0 := hD2.nodesCell
       rw [List.length_set] at f0
       obtain ⟨v2, f2, f2f⟩ := hD2.cellsThere (i := j) (k := 2) (by rw [List.length_set]; exact hjl) (by omega)
       obtain ⟨v3, f3, f3f⟩ := hD2.cellsThere (i := i) (k := 0) (by rw [List.length_set]; exact hi) (by omega)
       rw [Nat.add_zero] at f3 f3f
       clear hD2 hk2)
    | (go_at_call 59
       have hA := AFT.out
       have e1 : m + 1 - m = 1 := by omega
       rw [e1] at hA
       obtain ⟨_, hkA, bnA, capA, pnA, hfA⟩ := hA
       have AFT2 := hid (And.intro hkA hfA)
       have COL := hid (collect_all WF2.out u2 hfA (h2 i + 1) i (by simpa using hi) (Nat.lt_succ_self _))
       simp only [World.size_setCell] at COL
       clear hkA hfA
       refine (all_any bf i _).mono ?_; rintro e w3 ⟨rfl, rfl⟩)
    | (go_at_call 58
       refine COL.out.mono ?_
       rintro e w4 ⟨a4, c4, rfl, hb4, hr4, hg4⟩
       have B4 := hid hb4
       clear hb4 hr4 hg4)
    | (go_at_call 110; refine (shift_any _ _ _ _).mono ?_; rintro e w5 ⟨mv5, rfl, hb5⟩)
    | (go_at_call 113; refine (gather_any _ _ _ _ _ _ _ _ _).mono ?_; rintro e w6 ⟨mv6, rfl, hb6⟩)
  go_ret2
  obtain ⟨hkA, hfA⟩ := AFT2.out
  have hb4 := B4.out
  rw [← World.size_setCell w2 ⟨bn, j * 4 + 2, none⟩ (.slice (some ⟨g, 0, none⟩) (y.ks.length - 1) cp), ← World.size_setCell (w2.setCell ⟨bn, j * 4 + 2, none⟩ (.slice (some ⟨g, 0, none⟩) (y.ks.length - 1) cp)) ⟨bn, i * 4, none⟩ (.int .i64 (-1))] at hb4
  have hb := (hb4.trans (hb5.mono hb4.size)).trans (hb6.mono (Nat.le_trans hb4.size hb5.size))
  exact ⟨_, rfl, hkA.trans (Keeps.of_below hb), ⟨_, _, _, hfA.below hb⟩, trivial⟩
end

end Go.Proofs.YtnplbbclgpieaaaGreatDoor

/- The document's answers at Remove. -/
namespace Go.Proofs.YtnplbbclgpieaaaGreatDoor
open Go.RowKit
set_option linter.unusedSimpArgs false
set_option linter.unusedVariables false

theorem ans_remove (s : List Nd) (wf : WF s) (A : Int) : Ans PDoc GG ⟨s, []⟩ 34 35 [.int .i64 A] (fun v => v) (fun v => v) := by
  have hcap := wf.cap
  cases hA : isB s A with
  | false =>
    refine ⟨A, 1, ⟨s, []⟩, ⟨wf, rfl⟩, ?_, ?_⟩
    · intro w F bx hg hP
      exact mremove_no hg hP A (errOf_P A 1 (by decide)) (fun F' bf h => tremove_node h A hA)
    · intro w F bd hR
      have hR' := hR
      obtain ⟨bn, cap, rn, rv, hD⟩ := hR
      exact (rremove_node hD A hA).mono fun e w' ⟨h1, h2⟩ => ⟨h1, Keeps.of_below h2, hR'.after h2⟩
  | true =>
    obtain ⟨h1, h2⟩ := isB_true hA
    obtain ⟨i, rfl⟩ : ∃ i : Nat, A = (i : Int) := ⟨A.toNat, by omega⟩
    have hi : i < s.length := by omega
    obtain ⟨x, hx⟩ : ∃ x, s[i]? = some x := ⟨_, List.getElem?_eq_getElem hi⟩
    by_cases hp : 0 ≤ x.p
    · obtain ⟨j, m, y, hj, hy, hm, hno, hyl⟩ := wf.place hx hp
      obtain ⟨hij, hwf⟩ := wf_remove wf hx hj hy hm
      refine ⟨0, 0, ⟨_, []⟩, ⟨hwf, rfl⟩, ?_, ?_⟩
      · intro w F bx hg hP
        exact mremove_of hg hP i (fun F' bf h => tremove_done h i j m x y hx hj hy hm hno hij (by unfold lots; omega) (by unfold lots; omega) hwf)
      · rintro w F bd ⟨bn, cap, rn, rv, hD⟩
        exact (rremove_done hD i j m x y hx hj hy hm hno (by unfold lots; omega) hij).mono fun e w' h => h
    · have hp1 : x.p = -1 := by
        rcases wf.par i x hx with h | ⟨j, y, h, _⟩
        · exact h
        · omega
      refine ⟨i, 4, ⟨s, []⟩, ⟨wf, rfl⟩, ?_, ?_⟩
      · intro w F bx hg hP
        exact mremove_no hg hP i (errOf_P i 4 (by decide)) (fun F' bf h => tremove_none h i x hx hp1 (by unfold lots; omega))
      · intro w F bd hR
        have hR' := hR
        obtain ⟨bn, cap, rn, rv, hD⟩ := hR
        exact (rremove_none hD i x hx (by omega)).mono fun e w' ⟨h1, h2⟩ => ⟨h1, Keeps.of_below h2, hR'.after h2⟩

end Go.Proofs.YtnplbbclgpieaaaGreatDoor

/- tree.Show; the document's answers at Show. -/
namespace Go.Proofs.YtnplbbclgpieaaaGreatDoor
open Go.RowKit
set_option linter.unusedSimpArgs false
set_option linter.unusedVariables false

section
variable {F : Nat → Prop} {bf bn cap : Nat} {pn : List PN} {s : List Nd}

theorem write_any {B b : Nat} (wf : WF s) {h : Nat → Nat} {H : Nat} (u : Up s h H) (hF : ∀ b, F b → b < B) : ∀ (k n : Nat), n < s.length → h n < k → ∀ (w : World) (acc : ByteArray), PForAt w F bf bn cap pn s → Bld B b (Lib.strCells acc) w → B ≤ w.heap.size → acc.size + (shownF s k n).size + 20 < lots →
    Calls Tryz.prog 114 #[ptr bf, ptr b, .int .i64 n] w (Wrote B b (acc ++ shownF s k n) w) := by
  intro k
  induction k with
  | zero => intro n _ hk; omega
  | succ k ih =>
    intro n hn hk w acc hD hb hBw hlen
    have hx : s[n]? = some s[n] := List.getElem?_eq_getElem hn
    generalize s[n] = x at hx
    have h40 := wf.cap
    have hch := wf.chars n x hx
    have hkl : x.ks.length ≤ 40 := nodup_length 40 _ (wf.nodup n x hx) (fun c hc => by have := (wf.kid_lt u hx hc).1; omega)
    simp only [shownF, hx] at hlen ⊢
    cases ht : x.t with
    | true =>
      rw [ht, if_pos rfl, ByteArray.size_append] at hlen
      rw [if_pos rfl]
      exact write_text hD hF n x hx ht (by omega) acc hb hBw hch.2 (by omega)
    | false =>
      rw [ht, if_neg (by decide), ByteArray.size_append] at hlen
      rw [if_neg (by decide)]
      refine write_elem hD hF n x (shownF s k) hx ht (by omega) (by unfold lots; omega) acc hb hBw (by omega) (fun c hc w1 a1 h1 h2 h3 h4 => ?_)
      have := wf.kid_lt u hx hc
      exact ih c this.1 (by omega) w1 a1 h1 h2 h3 h4

variable {w : World}

set_option maxHeartbeats 400000 in
theorem tshow_no (hD : PFor w F bf s) (n : Int) (h : isB s n = false) : Calls Tryz.prog 73 #[ptr bf, .int .i64 n] w (TPost F w bf s (.tuple #[.string ⟨#[]⟩, refusalV n 1])) := by
  have HD := hid hD
  obtain ⟨bn, cap, pn, hD⟩ := hD
  have C := hid (find_no hD n h)
  clear hD h
  go_enter Tryz.func73, Tryz.ntmps73
  go_wp2_with (go_at_call 56; refine C.out.mono ?_; rintro e w1 ⟨rfl, rfl⟩)
  go_ret2
  exact ⟨rfl, Keeps.refl _ _, HD.out.wider (fun b h => .inl h)⟩

set_option maxHeartbeats 1000000 in
theorem tshow_yes (wf : WF s) (hD : PFor w F bf s) (n : Nat) (hn : n < s.length) (t : ByteArray) (ht : Lim (fun k => shownF s k n) t) : Calls Tryz.prog 73 #[ptr bf, .int .i64 n] w (TPost F w bf s (.tuple #[.string t, .nilIface])) := by
  have HD := hid hD
  obtain ⟨h, H, u⟩ := wf.up
  obtain ⟨bn, cap, pn, hD⟩ := hD.narrow
  have C := hid (find_yes hD n (isB_of (by omega)))
  have hal := all_length wf (h n + 1) n hn
  have hsz := shown_size wf u (h n + 1) n hn (by omega)
  have e := (shown_lim wf u (k := h n + 1) (n := n) (by omega)).unique ht
  have hb0 : Bld w.heap.size w.heap.size (Lib.strCells ⟨#[]⟩) (w.alloc (.cells #[.pointer none, .slice none 0 0] 181)) :=
    .inl ⟨Nat.le_refl _, .slice none 0 0, heap_alloc_new w _, World.ownsRow_nil _ _ _ _, fun e => by cases e⟩
  have hbl : Below w.heap.size w (w.alloc (.cells #[.pointer none, .slice none 0 0] 181)) := (Below.refl _ w).alloc (Nat.le_refl _) _
  have CW := hid (write_any (B := w.heap.size) wf u (fun b hb => hb.2) (h n + 1) n hn (by omega) _ ⟨#[]⟩ (hD.under (fun b hb => hb.2) hbl) hb0 (by simp) (by unfold lots; have : (⟨#[]⟩ : ByteArray).size = 0 := rfl; omega))
  rw [e, show (⟨#[]⟩ : ByteArray) ++ t = t from by show ByteArray.empty ++ t = t; simp] at CW
  have HB := hid hbl
  clear hD hal hsz e hb0 hbl ht
  go_enter Tryz.func73, Tryz.ntmps73
  go_wp2_with first
    | (go_at_call 56; refine C.out.mono ?_; rintro e w1 ⟨rfl, rfl⟩)
    | (go_at_call 114; refine CW.out.mono ?_; rintro e w2 ⟨rfl, hu2, hb2⟩
       have hs2 := hb2.size
       have CS := hid (Tryz.Builder_String_any _ _ t.data.toList w2 (bld_of hu2) (by have := HB.out.size; omega)))
    | (go_at_call 115; refine CS.out.mono ?_; rintro e w3 ⟨rfl, hb3⟩)
  go_ret2
  have hb4 := HB.out.trans (hb2.trans hb3)
  exact ⟨rfl, Keeps.of_below hb4, (HD.out.below hb4).wider (fun b h => .inl h)⟩
end

theorem ans_show (s : List Nd) (wf : WF s) (A : Int) : ∃ b : ByteArray, Ans PDoc GG ⟨s, []⟩ 36 37 [.int .i64 A] (fun v => .tuple #[.string b, v]) (fun v => .tuple #[.string b, v]) := by
  cases hA : isB s A with
  | false =>
    refine ⟨⟨#[]⟩, A, 1, ⟨s, []⟩, ⟨wf, rfl⟩, ?_, ?_⟩
    · intro w F bx hg hP
      exact mshow_of hg hP A (errOf_P A 1 (by decide)) (fun F' bf h => tshow_no h A hA)
    · intro w F bd hR
      have hR' := hR
      obtain ⟨bn, cap, rn, rv, hD⟩ := hR
      exact (rshow_no hD A hA).mono fun e w' ⟨h1, h2⟩ => ⟨h1, Keeps.of_below h2, hR'.after h2⟩
  | true =>
    obtain ⟨h1, h2⟩ := isB_true hA
    obtain ⟨i, rfl⟩ : ∃ i : Nat, A = (i : Int) := ⟨A.toNat, by omega⟩
    have hi : i < s.length := by omega
    obtain ⟨h, H, u⟩ := wf.up
    have hl := shown_lim wf u (k := h i + 1) (n := i) (by omega)
    refine ⟨shownF s (h i + 1) i, 0, 0, ⟨s, []⟩, ⟨wf, rfl⟩, ?_, ?_⟩
    · intro w F bx hg hP
      exact mshow_of hg hP i (errOf_nil 0) (fun F' bf h => tshow_yes wf h i hi _ hl)
    · intro w F bd hR
      have hR' := hR
      obtain ⟨bn, cap, rn, rv, hD⟩ := hR
      exact (rshow_yes wf hD i hi _ hl).mono fun e w' ⟨h1, h2⟩ => ⟨h1, Keeps.of_below h2, hR'.after h2⟩

end Go.Proofs.YtnplbbclgpieaaaGreatDoor

/- Trees, from what Insert answers: all else is here. -/
namespace Go.Proofs.YtnplbbclgpieaaaGreatDoor
open Go.RowKit

theorem answers_of (hI : ∀ s, WF s → ∀ A B C : Int, Ans PDoc GG ⟨s, []⟩ 32 33 [.int .i64 A, .int .i64 B, .int .i64 C] (fun v => v) (fun v => v)) : Answers PDoc GG where
  pd := pdoc_ok
  gb := fun _ _ h hb => h.below hb
  new := mnew_ok
  element := fun ⟨s, r⟩ ⟨wf, hr⟩ => by cases hr; exact ans_element s wf
  text := fun ⟨s, r⟩ ⟨wf, hr⟩ S hS => by cases hr; exact ans_text s wf S hS
  insert := fun ⟨s, r⟩ ⟨wf, hr⟩ A B C => by cases hr; exact hI s wf A B C
  remove := fun ⟨s, r⟩ ⟨wf, hr⟩ A => by cases hr; exact ans_remove s wf A
  shown := fun ⟨s, r⟩ ⟨wf, hr⟩ A => by cases hr; exact ans_show s wf A

theorem trees_of (hI : ∀ s, WF s → ∀ A B C : Int, Ans PDoc GG ⟨s, []⟩ 32 33 [.int .i64 A, .int .i64 B, .int .i64 C] (fun v => v) (fun v => v)) : Rows.TreesUptoCardSaid :=
  trees_card (answers_of hI) gg_of_laid

end Go.Proofs.YtnplbbclgpieaaaGreatDoor
