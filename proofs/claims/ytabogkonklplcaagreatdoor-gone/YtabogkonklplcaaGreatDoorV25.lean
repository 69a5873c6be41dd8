import Derived.Test.YtabogkonklplcaaGreatDoorV19
import Derived.Test.YtabogkonklplcaaGreatDoorV08
import Derived.Test.YtabogkonklplcaaGreatDoorV18

namespace Go.Proofs.YtabogkonklplcaaGreatDoor
open Go.RowKit
set_option linter.unusedSimpArgs false
set_option linter.unusedVariables false
section
variable {w : World} {F : Nat → Prop} {bf bn cap : Nat} {pn : List PN} {s : List Nd}
set_option maxHeartbeats 1000000 in
theorem may_root (hD : PForAt w F bf bn cap pn s) (i : Nat) (C : Int) (x : Nd) (hx : s[i]? = some x) (ht : x.t = false) : Calls Tryz.prog 146 #[ptr bf, .int .i64 i, .int .i64 0, .int .i64 C] w fun e w' => e = .returned (refusalV 0 4) ∧ Below w.heap.size w w' := by
  have hi : i < s.length := (List.getElem?_eq_some_iff.1 hx).1
  have C1 := hid (find_yes hD i (isB_of (by omega)))
  have C2 := hid (find_yes hD 0 (isB_of (by omega)))
  have h0 := hD.nodesCell
  obtain ⟨r, hr, ho, c0, c1, c2, c3⟩ := hD.look hx
  rw [ht] at c1
  clear hD hx ho hr c0 c2 c3
  go_enter Tryz.func146, Tryz.ntmps146
  go_wp2_with (go_at_call 87; (first | (refine C1.out.mono ?_; clear C1; rintro e w1 ⟨rfl, hw1⟩; subst hw1) | (refine C2.out.mono ?_; clear C2; rintro e w1 ⟨rfl, hw1⟩; subst hw1)))
  go_ret
  exact ⟨rfl, Below.refl _ _⟩
set_option maxHeartbeats 1000000 in
theorem may_has (hD : PForAt w F bf bn cap pn s) (i j : Nat) (C : Int) (x y : Nd) (hx : s[i]? = some x) (hy : s[j]? = some y) (ht : x.t = false) (hj : 0 < j) (hp : 0 ≤ y.p) : Calls Tryz.prog 146 #[ptr bf, .int .i64 i, .int .i64 j, .int .i64 C] w fun e w' => e = .returned (refusalV j 4) ∧ Below w.heap.size w w' := by
  have hi : i < s.length := (List.getElem?_eq_some_iff.1 hx).1
  have hjl : j < s.length := (List.getElem?_eq_some_iff.1 hy).1
  have C1 := hid (find_yes hD i (isB_of (by omega)))
  have C2 := hid (find_yes hD j (isB_of (by omega)))
  have h0 := hD.nodesCell
  obtain ⟨r, hr, ho, c0, c1, c2, c3⟩ := hD.look hx
  obtain ⟨r2, hr2, ho2, d0, d1, d2, d3⟩ := hD.look hy
  rw [ht] at c1
  have hj0 : ((j : Int) == 0) = false := by simp; omega
  have hp0 : (y.p != -1) = true := by simp; omega
  clear hD hx ho hr c0 c2 c3 hr2 ho2 d1 d2 d3 hy
  go_enter Tryz.func146, Tryz.ntmps146
  go_wp2_with (go_at_call 87; (first | (refine C1.out.mono ?_; clear C1; rintro e w1 ⟨rfl, hw1⟩; subst hw1) | (refine C2.out.mono ?_; clear C2; rintro e w1 ⟨rfl, hw1⟩; subst hw1)))
  go_ret
  exact ⟨rfl, Below.refl _ _⟩
set_option maxHeartbeats 1000000 in
theorem may_cycle (wf : WF s) {h : Nat → Nat} {B : Nat} (u : Up s h B) (hD : PForAt w F bf bn cap pn s) (i j k : Nat) (C : Int) (x y : Nd) (hI : InsOk s i j x y) (hk : h j < k) (hm : i ∈ allF s k j) : Calls Tryz.prog 146 #[ptr bf, .int .i64 i, .int .i64 j, .int .i64 C] w fun e w' => e = .returned (refusalV j 5) ∧ Below w.heap.size w w' := by
  obtain ⟨hx, hy, ht, hj, hp⟩ := hI
  have hi : i < s.length := (List.getElem?_eq_some_iff.1 hx).1
  have hjl : j < s.length := (List.getElem?_eq_some_iff.1 hy).1
  have C1 := hid (find_yes hD i (isB_of (by omega)))
  have C2 := hid (find_yes hD j (isB_of (by omega)))
  have C3 := hid (holds_any wf u hD k j i hjl hk)
  rw [decide_eq_true hm] at C3
  have h0 := hD.nodesCell
  obtain ⟨r, hr, ho, c0, c1, c2, c3⟩ := hD.look hx
  obtain ⟨r2, hr2, ho2, d0, d1, d2, d3⟩ := hD.look hy
  have hp1 : y.p = -1 := by rcases wf.par j y hy with e | ⟨q, _, e, _⟩ <;> omega
  rw [ht] at c1
  rw [hp1] at d0
  have hj0 : ((j : Int) == 0) = false := by simp; omega
  clear hD hx ho hr c0 c2 c3 hr2 ho2 d1 d2 d3 hy hm hk u wf hp1 hp
  go_enter Tryz.func146, Tryz.ntmps146
  go_wp2_with (first
    | (go_at_call 87; (first | (refine C1.out.mono ?_; clear C1; rintro e w1 ⟨rfl, hw1⟩; subst hw1) | (refine C2.out.mono ?_; clear C2; rintro e w1 ⟨rfl, hw1⟩; subst hw1)))
    | (go_at_call 173; refine C3.out.mono ?_; rintro e w1 ⟨rfl, hb⟩))
  go_ret
  exact ⟨rfl, hb⟩
set_option maxHeartbeats 1000000 in
theorem may_index (wf : WF s) {h : Nat → Nat} {B : Nat} (u : Up s h B) (hD : PForAt w F bf bn cap pn s) (i j k : Nat) (C : Int) (x y : Nd) (hI : InsOk s i j x y) (hk : h j < k) (hm : i ∉ allF s k j) (hC : C < 0 ∨ (x.ks.length : Int) < C) : Calls Tryz.prog 146 #[ptr bf, .int .i64 i, .int .i64 j, .int .i64 C] w fun e w' => e = .returned (refusalV i 3) ∧ Below w.heap.size w w' := by
  obtain ⟨hx, hy, ht, hj, hp⟩ := hI
  have hi : i < s.length := (List.getElem?_eq_some_iff.1 hx).1
  have hjl : j < s.length := (List.getElem?_eq_some_iff.1 hy).1
  have C1 := hid (find_yes hD i (isB_of (by omega)))
  have C2 := hid (find_yes hD j (isB_of (by omega)))
  have C3 := hid (holds_any wf u hD k j i hjl hk)
  rw [decide_eq_false hm] at C3
  have h0 := hD.nodesCell
  obtain ⟨r, hr, ho, c0, c1, c2, c3⟩ := hD.look hx
  obtain ⟨r2, hr2, ho2, d0, d1, d2, d3⟩ := hD.look hy
  have hp1 : y.p = -1 := by rcases wf.par j y hy with e | ⟨q, _, e, _⟩ <;> omega
  rw [ht] at c1
  rw [hp1] at d0
  have hlt := hD.lt
  obtain ⟨sa, sc, hkv⟩ : ∃ a c, r.kv = .slice a x.ks.length c := by
    rcases row_cases ho.kids with ⟨h1, h2⟩ | ⟨g, c, h1⟩
    · exact ⟨none, 0, by rw [h1, h2]⟩
    · exact ⟨_, _, h1⟩
  rw [hkv] at c2
  have hj0 : ((j : Int) == 0) = false := by simp; omega
  clear hD hx ho hr c0 c3 hr2 ho2 d1 d2 d3 hy hm hk u wf hp1 hp hkv
  by_cases hneg : C < 0
  · clear hC c2
    go_enter Tryz.func146, Tryz.ntmps146
    go_wp2_with (first
      | (go_at_call 87; (first | (refine C1.out.mono ?_; clear C1; rintro e w1 ⟨rfl, hw1⟩; subst hw1) | (refine C2.out.mono ?_; clear C2; rintro e w1 ⟨rfl, hw1⟩; subst hw1)))
      | (go_at_call 173; refine C3.out.mono ?_; rintro e w1 ⟨rfl, hb⟩))
    go_ret
    exact ⟨rfl, hb⟩
  · have hC2 : (x.ks.length : Int) < C := by omega
    have hneg2 : decide (C < 0) = false := decide_eq_false hneg
    clear hC
    go_enter Tryz.func146, Tryz.ntmps146
    go_wp2_with (first
      | (go_at_call 87; (first | (refine C1.out.mono ?_; clear C1; rintro e w1 ⟨rfl, hw1⟩; subst hw1) | (refine C2.out.mono ?_; clear C2; rintro e w1 ⟨rfl, hw1⟩; subst hw1)))
      | (go_at_call 173; refine C3.out.mono ?_; rintro e w1 ⟨rfl, hb⟩
         have e0 := (hb.cell (p := ⟨bf, 0, none⟩) hlt.1).trans h0
         have e2 := (hb.cell (p := ⟨bn, i * 4 + 2, none⟩) hlt.2).trans c2))
    go_ret
    exact ⟨rfl, hb⟩
set_option maxHeartbeats 1000000 in
theorem may_ok (wf : WF s) {h : Nat → Nat} {B : Nat} (u : Up s h B) (hD : PForAt w F bf bn cap pn s) (i j k c : Nat) (x y : Nd) (hI : InsOk s i j x y) (hk : h j < k) (hm : i ∉ allF s k j) (hC : c ≤ x.ks.length) : Calls Tryz.prog 146 #[ptr bf, .int .i64 i, .int .i64 j, .int .i64 c] w fun e w' => e = .returned .nilIface ∧ Below w.heap.size w w' := by
  obtain ⟨hx, hy, ht, hj, hp⟩ := hI
  have hi : i < s.length := (List.getElem?_eq_some_iff.1 hx).1
  have hjl : j < s.length := (List.getElem?_eq_some_iff.1 hy).1
  have C1 := hid (find_yes hD i (isB_of (by omega)))
  have C2 := hid (find_yes hD j (isB_of (by omega)))
  have C3 := hid (holds_any wf u hD k j i hjl hk)
  rw [decide_eq_false hm] at C3
  have h0 := hD.nodesCell
  obtain ⟨r, hr, ho, c0, c1, c2, c3⟩ := hD.look hx
  obtain ⟨r2, hr2, ho2, d0, d1, d2, d3⟩ := hD.look hy
  have hp1 : y.p = -1 := by rcases wf.par j y hy with e | ⟨q, _, e, _⟩ <;> omega
  rw [ht] at c1
  rw [hp1] at d0
  have hlt := hD.lt
  obtain ⟨sa, sc, hkv⟩ : ∃ a c, r.kv = .slice a x.ks.length c := by
    rcases row_cases ho.kids with ⟨h1, h2⟩ | ⟨g, c, h1⟩
    · exact ⟨none, 0, by rw [h1, h2]⟩
    · exact ⟨_, _, h1⟩
  rw [hkv] at c2
  have hj0 : ((j : Int) == 0) = false := by simp; omega
  have hneg : decide ((c : Int) < 0) = false := decide_eq_false (by omega)
  have hC2 : ¬ (x.ks.length : Int) < (c : Int) := by omega
  have hC3 : decide ((x.ks.length : Int) < (c : Int)) = false := decide_eq_false hC2
  clear hD hx ho hr c0 c3 hr2 ho2 d1 d2 d3 hy hm hk u wf hp1 hp hkv
  go_enter Tryz.func146, Tryz.ntmps146
  go_wp2_with (first
    | (go_at_call 87; (first | (refine C1.out.mono ?_; clear C1; rintro e w1 ⟨rfl, hw1⟩; subst hw1) | (refine C2.out.mono ?_; clear C2; rintro e w1 ⟨rfl, hw1⟩; subst hw1)))
    | (go_at_call 173; refine C3.out.mono ?_; rintro e w1 ⟨rfl, hb⟩
       have e0 := (hb.cell (p := ⟨bf, 0, none⟩) hlt.1).trans h0
       have e2 := (hb.cell (p := ⟨bn, i * 4 + 2, none⟩) hlt.2).trans c2))
  go_ret
  exact ⟨rfl, hb⟩
end
section
variable {w : World} {F : Nat → Prop} {bf : Nat} {s : List Nd}
set_option maxHeartbeats 400000 in
theorem tinsert_no (hD : PFor w F bf s) (A B C n y : Int) (hM : Calls Tryz.prog 146 #[ptr bf, .int .i64 A, .int .i64 B, .int .i64 C] w fun e w' => e = .returned (refusalV n y) ∧ Below w.heap.size w w') : Calls Tryz.prog 94 #[ptr bf, .int .i64 A, .int .i64 B, .int .i64 C] w (TPost F w bf s (.tuple #[.nilFunc, refusalV n y])) := by
  have HD := hid hD
  have C1 := hid hM
  clear hD hM
  go_enter Tryz.func94, Tryz.ntmps94
  go_wp2_with (go_at_call 146; refine C1.out.mono ?_; rintro e w1 ⟨rfl, hb⟩)
  go_ret2
  exact ⟨rfl, Keeps.of_below hb, (HD.out.below hb).wider (fun b h => .inl h)⟩
set_option maxHeartbeats 400000 in
theorem tinsert_done (wf : WF s) {h : Nat → Nat} {B : Nat} (u : Up s h B) (hD : PFor w F bf s) (i j k c : Nat) (x y : Nd) (hI : InsOk s i j x y) (hk : h j < k) (hm : i ∉ allF s k j) (hC : c ≤ x.ks.length) (hij : i ≠ j) (hbig : s.length < lots) (hkb : x.ks.length < lots) :
    Calls Tryz.prog 94 #[ptr bf, .int .i64 i, .int .i64 j, .int .i64 c] w (TMv (shiftF i c 1) F w bf ((s.set i { x with ks := x.ks.take c ++ j :: x.ks.drop c }).set j { y with p := i })) := by
  obtain ⟨bn, cap, pn, hD⟩ := hD
  have C1 := hid (may_ok wf u hD i j k c x y hI hk hm hC)
  have C2 := hid (fun w1 (hb : Below w.heap.size w w1) => attach_any (hD.below hb) i j c x y hI.hx hI.hy hC hij hbig hkb)
  clear hD hI hk hm hC u wf hbig hkb
  go_enter Tryz.func94, Tryz.ntmps94
  go_wp2_with (first
    | (go_at_call 146; refine C1.out.mono ?_; rintro e w1 ⟨rfl, hb⟩)
    | (go_at_call 107; refine (C2.out _ hb).mono ?_; rintro e w2 ⟨rfl, hk2, hf2⟩)
    | (go_at_call 109; refine (shift_at _ _ _ (by decide) (by decide) _).mono ?_; rintro e w3 ⟨x3, y3, z3, rfl, hb3, hS3, l1, l2, l3⟩
       have H3 := hid (And.intro hS3 (And.intro l1 (And.intro l2 l3)))
       clear hS3 l1 l2 l3))
  go_ret2
  obtain ⟨hS3, l3⟩ := H3.out
  refine ⟨_, w2.heap.size, rfl, ((Keeps.of_below hb).trans (hk2.mono (fun b _ e => .inl e))).trans (Keeps.of_below hb3), Nat.le_trans hb.size hk2.size, hb3.size, (hf2.narrow.below hb3).wider (fun b e => ?_), hS3.move l3⟩
  rcases e.1 with h | h
  · exact .inl h
  · exact .inr ⟨Nat.le_trans hb.size h, e.2⟩
end
end Go.Proofs.YtabogkonklplcaaGreatDoor
