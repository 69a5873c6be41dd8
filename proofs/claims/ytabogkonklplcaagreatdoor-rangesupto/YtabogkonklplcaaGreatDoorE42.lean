import Derived.Test.YtabogkonklplcaaGreatDoorE31
import Derived.Test.YtabogkonklplcaaGreatDoorE39
import Derived.Test.YtabogkonklplcaaGreatDoorE27
import Derived.Test.YtabogkonklplcaaGreatDoorE41

/- tree.mayInsert where it must look at trees; tree.Insert; the document's answers at Insert. -/
namespace Go.Proofs.YtabogkonklplcaaGreatDoor
open Go.RowKit
set_option linter.unusedSimpArgs false
set_option linter.unusedVariables false

section
variable {w : World} {F : Nat → Prop} {bf bn cap : Nat} {pn : List PN} {s : List Nd}

set_option maxHeartbeats 1000000 in
theorem may_root (hD : PForAt w F bf bn cap pn s) (i : Nat) (C : Int) (x : Nd) (hx : s[i]? = some x) (ht : x.t = false) : Calls Tryz.prog 146 #[ptr bf, .int .i64 i, .int .i64 0, .int .i64 C] w fun e w' => e = .returned (refusalV 0 4) ∧ Below w.heap.size w w' := by
  have hi : i < s.length := (List.getElem?_eq_some_iff.1 hx).1
  have C1 := hid (find_yes hD i (isB_of (by omega)))
  have C2 := hid (find_yes hD 0 (isB_of (by omega)))
  have h0 := hD.nodesCell
  obtain ⟨r, hr, ho, c0, c1, c2, c3⟩ := hD.look hx
  rw [ht] at c1
  clear hD hx ho hr c0 c2 c3
  go_enter Tryz.func146, Tryz.ntmps146
  go_wp2_with (go_at_call 87; (first | (refine C1.out.mono ?_; clear C1; rintro e w1 ⟨rfl, hw1⟩; subst hw1) | (refine C2.out.mono ?_; clear C2; rintro e w1 ⟨rfl, hw1⟩; subst hw1)))
  go_ret
  exact ⟨rfl, Below.refl _ _⟩

set_option maxHeartbeats 1000000 in
theorem may_has (hD : PForAt w F bf bn cap pn s) (i j : Nat) (C : Int) (x y : Nd) (hx : s[i]? = some x) (hy : s[j]? = some y) (ht : x.t = false) (hj : 0 < j) (hp : 0 ≤ y.p) : Calls Tryz.prog 146 #[ptr bf, .int .i64 i, .int .i64 j, .int .i64 C] w fun e w' => e = .returned (refusalV j 4) ∧ Below w.heap.size w w' := by
  have hi : i < s.length := (List.getElem?_eq_some_iff.1 hx).1
  have hjl : j < s.length := (List.getElem?_eq_some_iff.1 hy).1
  have C1 := hid (find_yes hD i (isB_of (by omega)))
  have C2 := hid (find_yes hD j (isB_of (by omega)))
  have h0 := hD.nodesCell
  obtain ⟨r, hr, ho, c0, c1, c2, c3⟩ := hD.look hx
  obtain ⟨r2, hr2, ho2, d0, d1, d2, d3⟩ := hD.look hy
  rw [ht] at c1
  have hj0 : ((j : Int) == 0) = false := by simp; omega
  have hp0 : (y.p != -1) = true := by simp; omega
  clear hD hx ho hr c0 c2 c3 hr2 ho2 d1 d2 d3 hy
  go_enter Tryz.func146, Tryz.ntmps146
  go_wp2_with (go_at_call 87; (first | (refine C1.out.mono ?_; clear C1; rintro e w1 ⟨rfl, hw1⟩; subst hw1) | (refine C2.out.mono ?_; clear C2; rintro e w1 ⟨rfl, hw1⟩; subst hw1)))
  go_ret
  exact ⟨rfl, Below.refl _ _⟩

set_option maxHeartbeats 1000000 in
theorem may_cycle (wf : WF s) {h : Nat → Nat} {B : Nat} (u : Up s h B) (hD : PForAt w F bf bn cap pn s) (i j k : Nat) (C : Int) (x y : Nd) (hI : InsOk s i j x y) (hk : h j < k) (hm : i ∈ allF s k j) : Calls Tryz.prog 146 #[ptr bf, .int .i64 i, .int .i64 j, .int .i64 C] w fun e w' => e = .returned (refusalV j 5) ∧ Below w.heap.size w w' := by
  obtain ⟨hx, hy, ht, hj, hp⟩ := hI
  have hi : i < s.length := (List.getElem?_eq_some_iff.1 hx).1
  have hjl : j < s.length := (List.getElem?_eq_some_iff.1 hy).1
  have C1 := hid (find_yes hD i (isB_of (by omega)))
  have C2 := hid (find_yes hD j (isB_of (by omega)))
  have C3 := hid (holds_any wf u hD k j i hjl hk)
  rw [decide_eq_true hm] at C3
  have h0 := hD.nodesCell
  obtain ⟨r, hr, ho, c0, c1, c2, c3⟩ := hD.look hx
  obtain ⟨r2, hr2, ho2, d0, d1, d2, d3⟩ := hD.look hy
  have hp1 : y.p = -1 := by rcases wf.par j y hy with e | ⟨q, _, e, _⟩ <;> omega
  rw [ht] at c1
  rw [hp1] at d0
  have hj0 : ((j : Int) == 0) = false := by simp; omega
  clear hD hx ho hr c0 c2 c3 hr2 ho2 d1 d2 d3 hy hm hk u wf hp1 hp
  go_enter Tryz.func146, Tryz.ntmps146
  go_wp2_with (first
    | (go_at_call 87; (first | (refine C1.out.mono ?_; clear C1; rintro e w1 ⟨rfl, hw1⟩; subst hw1) | (refine C2.out.mono ?_; clear C2; rintro e w1 ⟨rfl, hw1⟩; subst hw1)))
    | (go_at_call 173; refine C3.out.mono ?_; rintro e w1 ⟨rfl, hb⟩))
  go_ret
  exact ⟨rfl, hb⟩

set_option maxHeartbeats 1000000 in
theorem may_index (wf : WF s) {h : Nat → Nat} {B : Nat} (u : Up s h B) (hD : PForAt w F bf bn cap pn s) (i j k : Nat) (C : Int) (x y : Nd) (hI : InsOk s i j x y) (hk : h j < k) (hm : i ∉ allF s k j) (hC : C < 0 ∨ (x.ks.length : Int) < C) : Calls Tryz.prog 146 #[ptr bf, .int .i64 i, .int .i64 j, .int .i64 C] w fun e w' => e = .returned (refusalV i 3) ∧ Below w.heap.size w w' := by
  obtain ⟨hx, hy, ht, hj, hp⟩ := hI
  have hi : i < s.length := (List.getElem?_eq_some_iff.1 hx).1
  have hjl : j < s.length := (List.getElem?_eq_some_iff.1 hy).1
  have C1 := hid (find_yes hD i (isB_of (by omega)))
  have C2 := hid (find_yes hD j (isB_of (by omega)))
  have C3 := hid (holds_any wf u hD k j i hjl hk)
  rw [decide_eq_false hm] at C3
  have h0 := hD.nodesCell
  obtain ⟨r, hr, ho, c0, c1, c2, c3⟩ := hD.look hx
  obtain ⟨r2, hr2, ho2, d0, d1, d2, d3⟩ := hD.look hy
  have hp1 : y.p = -1 := by rcases wf.par j y hy with e | ⟨q, _, e, _⟩ <;> omega
  rw [ht] at c1
  rw [hp1] at d0
  have hlt := hD.lt
  obtain ⟨sa, sc, hkv⟩ : ∃ a c, r.kv = .slice a x.ks.length c := by
    rcases row_cases ho.kids with ⟨h1, h2⟩ | ⟨g, c, h1⟩
    · exact ⟨none, 0, by rw [h1, h2]⟩
    · exact ⟨_, _, h1⟩
  rw [hkv] at c2
  have hj0 : ((j : Int) == 0) = false := by simp; omega
  clear hD hx ho hr c0 c3 hr2 ho2 d1 d2 d3 hy hm hk u wf hp1 hp hkv
  by_cases hneg : C < 0
  · clear hC c2
    go_enter Tryz.func146, Tryz.ntmps146
    go_wp2_with (first
      | (go_at_call 87; (first | (refine C1.out.mono ?_; clear C1; rintro e w1 ⟨rfl, hw1⟩; subst hw1) | (refine C2.out.mono ?_; clear C2; rintro e w1 ⟨rfl, hw1⟩; subst hw1)))
      | (go_at_call 173; refine C3.out.mono ?_; rintro e w1 ⟨rfl, hb⟩))
    go_ret
    exact ⟨rfl, hb⟩
  · have hC2 : (x.ks.length : Int) < C := by omega
    have hneg2 : decide (C < 0) = false := decide_eq_false hneg
    clear hC
    go_enter Tryz.func146, Tryz.ntmps146
    go_wp2_with (first
      | (go_at_call 87; (first | (refine C1.out.mono ?_; clear C1; rintro e w1 ⟨rfl, hw1⟩; subst hw1) | (refine C2.out.mono ?_; clear C2; rintro e w1 ⟨rfl, hw1⟩; subst hw1)))
      | (go_at_call 173; refine C3.out.mono ?_; rintro e w1 ⟨rfl, hb⟩
         have e0 := (hb.cell (p := ⟨bf, 0, none⟩) hlt.1).trans h0
         have e2 := (hb.cell (p := ⟨bn, i * 4 + 2, none⟩) hlt.2).trans c2))
    go_ret
    exact ⟨rfl, hb⟩

set_option maxHeartbeats 1000000 in
theorem may_ok (wf : WF s) {h : Nat → Nat} {B : Nat} (u : Up s h B) (hD : PForAt w F bf bn cap pn s) (i j k c : Nat) (x y : Nd) (hI : InsOk s i j x y) (hk : h j < k) (hm : i ∉ allF s k j) (hC : c ≤ x.ks.length) : Calls Tryz.prog 146 #[ptr bf, .int .i64 i, .int .i64 j, .int .i64 c] w fun e w' => e = .returned .nilIface ∧ Below w.heap.size w w' := by
  obtain ⟨hx, hy, ht, hj, hp⟩ := hI
  have hi : i < s.length := (List.getElem?_eq_some_iff.1 hx).1
  have hjl : j < s.length := (List.getElem?_eq_some_iff.1 hy).1
  have C1 := hid (find_yes hD i (isB_of (by omega)))
  have C2 := hid (find_yes hD j (isB_of (by omega)))
  have C3 := hid (holds_any wf u hD k j i hjl hk)
  rw [decide_eq_false hm] at C3
  have h0 := hD.nodesCell
  obtain ⟨r, hr, ho, c0, c1, c2, c3⟩ := hD.look hx
  obtain ⟨r2, hr2, ho2, d0, d1, d2, d3⟩ := hD.look hy
  have hp1 : y.p = -1 := by rcases wf.par j y hy with e | ⟨q, _, e, _⟩ <;> omega
  rw [ht] at c1
  rw [hp1] at d0
  have hlt := hD.lt
  obtain ⟨sa, sc, hkv⟩ : ∃ a c, r.kv = .slice a x.ks.length c := by
    rcases row_cases ho.kids with ⟨h1, h2⟩ | ⟨g, c, h1⟩
    · exact ⟨none, 0, by rw [h1, h2]⟩
    · exact ⟨_, _, h1⟩
  rw [hkv] at c2
  have hj0 : ((j : Int) == 0) = false := by simp; omega
  have hneg : decide ((c : Int) < 0) = false := decide_eq_false (by omega)
  have hC2 : ¬ (x.ks.length : Int) < (c : Int) := by omega
  have hC3 : decide ((x.ks.length : Int) < (c : Int)) = false := decide_eq_false hC2
  clear hD hx ho hr c0 c3 hr2 ho2 d1 d2 d3 hy hm hk u wf hp1 hp hkv
  go_enter Tryz.func146, Tryz.ntmps146
  go_wp2_with (first
    | (go_at_call 87; (first | (refine C1.out.mono ?_; clear C1; rintro e w1 ⟨rfl, hw1⟩; subst hw1) | (refine C2.out.mono ?_; clear C2; rintro e w1 ⟨rfl, hw1⟩; subst hw1)))
    | (go_at_call 173; refine C3.out.mono ?_; rintro e w1 ⟨rfl, hb⟩
       have e0 := (hb.cell (p := ⟨bf, 0, none⟩) hlt.1).trans h0
       have e2 := (hb.cell (p := ⟨bn, i * 4 + 2, none⟩) hlt.2).trans c2))
  go_ret
  exact ⟨rfl, hb⟩
end

section
variable {w : World} {F : Nat → Prop} {bf : Nat} {s : List Nd}

set_option maxHeartbeats 400000 in
theorem tinsert_no (hD : PFor w F bf s) (A B C n y : Int) (hM : Calls Tryz.prog 146 #[ptr bf, .int .i64 A, .int .i64 B, .int .i64 C] w fun e w' => e = .returned (refusalV n y) ∧ Below w.heap.size w w') : Calls Tryz.prog 94 #[ptr bf, .int .i64 A, .int .i64 B, .int .i64 C] w (TPost F w bf s (.tuple #[.nilFunc, refusalV n y])) := by
  have HD := hid hD
  have C1 := hid hM
  clear hD hM
  go_enter Tryz.func94, Tryz.ntmps94
  go_wp2_with (go_at_call 146; refine C1.out.mono ?_; rintro e w1 ⟨rfl, hb⟩)
  go_ret2
  exact ⟨rfl, Keeps.of_below hb, (HD.out.below hb).wider (fun b h => .inl h)⟩

set_option maxHeartbeats 400000 in
theorem tinsert_done (wf : WF s) {h : Nat → Nat} {B : Nat} (u : Up s h B) (hD : PFor w F bf s) (i j k c : Nat) (x y : Nd) (hI : InsOk s i j x y) (hk : h j < k) (hm : i ∉ allF s k j) (hC : c ≤ x.ks.length) (hij : i ≠ j) (hbig : s.length < lots) (hkb : x.ks.length < lots) :
    Calls Tryz.prog 94 #[ptr bf, .int .i64 i, .int .i64 j, .int .i64 c] w (TMv (shiftF i c 1) F w bf ((s.set i { x with ks := x.ks.take c ++ j :: x.ks.drop c }).set j { y with p := i })) := by
  obtain ⟨bn, cap, pn, hD⟩ := hD
  have C1 := hid (may_ok wf u hD i j k c x y hI hk hm hC)
  have C2 := hid (fun w1 (hb : Below w.heap.size w w1) => attach_any (hD.below hb) i j c x y hI.hx hI.hy hC hij hbig hkb)
  clear hD hI hk hm hC u wf hbig hkb
  go_enter Tryz.func94, Tryz.ntmps94
  go_wp2_with (first
    | (go_at_call 146; refine C1.out.mono ?_; rintro e w1 ⟨rfl, hb⟩)
    | (go_at_call 107; refine (C2.out _ hb).mono ?_; rintro e w2 ⟨rfl, hk2, hf2⟩)
    | (go_at_call 109; refine (shift_at _ _ _ (by decide) (by decide) _).mono ?_; rintro e w3 ⟨x3, y3, z3, rfl, hb3, hS3, l1, l2, l3⟩
       have H3 := hid (And.intro hS3 (And.intro l1 (And.intro l2 l3)))
       clear hS3 l1 l2 l3))
  go_ret2
  obtain ⟨hS3, l3⟩ := H3.out
  refine ⟨_, w2.heap.size, rfl, ((Keeps.of_below hb).trans (hk2.mono (fun b _ e => .inl e))).trans (Keeps.of_below hb3), Nat.le_trans hb.size hk2.size, hb3.size, (hf2.narrow.below hb3).wider (fun b e => ?_), hS3.move l3⟩
  rcases e.1 with h | h
  · exact .inl h
  · exact .inr ⟨Nat.le_trans hb.size h, e.2⟩
end

theorem ans_insert (s : List Nd) (wf : WF s) (A B C : Int) : Ans PDoc GG ⟨s, []⟩ 54 75 [.int .i64 A, .int .i64 B, .int .i64 C] (fun v => v) (fun v => v) := by
  have hcap := wf.cap
  have no : ∀ (n y : Int), y ≠ 0 → (∀ (w : World) (F : Nat → Prop) (bf bn cap : Nat) (pn : List PN), PForAt w F bf bn cap pn s → Calls Tryz.prog 146 #[ptr bf, .int .i64 A, .int .i64 B, .int .i64 C] w fun e w' => e = .returned (refusalV n y) ∧ Below w.heap.size w w') →
      (∀ (w : World) (F : Nat → Prop) (bd bn cap : Nat) (rn : List RN) (rv : Value), RDocAt w F bd bn cap rn rv s [] → Calls Tryz.prog 75 #[ptr bd, .int .i64 A, .int .i64 B, .int .i64 C] w fun e w' => e = .returned (.agg #[.int .i64 n, .int .i64 y]) ∧ Below w.heap.size w w') →
      Ans PDoc GG ⟨s, []⟩ 54 75 [.int .i64 A, .int .i64 B, .int .i64 C] (fun v => v) (fun v => v) := by
    intro n y hy hT hR
    refine ⟨n, y, ⟨s, []⟩, ⟨wf, rfl⟩, ?_, ?_⟩
    · intro w F bx hg hP
      refine minsert_no hg hP A B C (errOf_P n y hy) (fun F' bf h => tinsert_no h A B C n y ?_)
      obtain ⟨bn, cap, pn, h⟩ := h
      exact hT w F' bf bn cap pn h
    · intro w F bd hD
      have hD' := hD
      obtain ⟨bn, cap, rn, rv, hD⟩ := hD
      exact (hR w F bd bn cap rn rv hD).mono fun e w' ⟨h1, h2⟩ => ⟨h1, Keeps.of_below h2, hD'.after h2⟩
  cases hA : isB s A with
  | false => exact no A 1 (by decide) (fun w F bf bn cap pn h => may_parent h A B C hA) (fun w F bd bn cap rn rv h => rinsert_parent h A B C hA)
  | true =>
    cases hB : isB s B with
    | false => exact no B 1 (by decide) (fun w F bf bn cap pn h => may_node h A B C hA hB) (fun w F bd bn cap rn rv h => rinsert_node h A B C hA hB)
    | true =>
      obtain ⟨a1, a2⟩ := isB_true hA
      obtain ⟨b1, b2⟩ := isB_true hB
      obtain ⟨i, rfl⟩ : ∃ i : Nat, A = (i : Int) := ⟨A.toNat, by omega⟩
      obtain ⟨j, rfl⟩ : ∃ j : Nat, B = (j : Int) := ⟨B.toNat, by omega⟩
      have hi : i < s.length := by omega
      have hj : j < s.length := by omega
      obtain ⟨x, hx⟩ : ∃ x, s[i]? = some x := ⟨_, List.getElem?_eq_getElem hi⟩
      obtain ⟨y, hy⟩ : ∃ y, s[j]? = some y := ⟨_, List.getElem?_eq_getElem hj⟩
      cases ht : x.t with
      | true => exact no i 2 (by decide) (fun w F bf bn cap pn h => may_kind h i j C x hx hj ht) (fun w F bd bn cap rn rv h => rinsert_kind h i j C x hx hj ht)
      | false =>
        by_cases hj0 : j = 0
        · subst hj0
          exact no _ 4 (by decide) (fun w F bf bn cap pn h => may_root h i C x hx ht) (fun w F bd bn cap rn rv h => rinsert_has h i 0 C x y hx hy ht (.inl rfl))
        · by_cases hp : 0 ≤ y.p
          · exact no j 4 (by decide) (fun w F bf bn cap pn h => may_has h i j C x y hx hy ht (by omega) hp) (fun w F bd bn cap rn rv h => rinsert_has h i j C x y hx hy ht (.inr hp))
          · have hI : InsOk s i j x y := ⟨hx, hy, ht, by omega, by omega⟩
            obtain ⟨ht0, Bd, u⟩ := wf.up
            by_cases hm : i ∈ allF s (ht0 j + 1) j
            · exact no j 5 (by decide) (fun w F bf bn cap pn h => may_cycle wf u h i j (ht0 j + 1) C x y hI (by omega) hm) (fun w F bd bn cap rn rv h => rinsert_cycle h u i j C x y hI (holds_yes wf hi hm))
            · have hw := holds_no wf u hi (Nat.lt_succ_self _) hm
              by_cases hC : C < 0 ∨ (x.ks.length : Int) < C
              · exact no i 3 (by decide) (fun w F bf bn cap pn h => may_index wf u h i j (ht0 j + 1) C x y hI (by omega) hm hC) (fun w F bd bn cap rn rv h => rinsert_index h u i j C x y hI hw hC)
              · obtain ⟨c, rfl⟩ : ∃ c : Nat, C = (c : Int) := ⟨C.toNat, by omega⟩
                have hc : c ≤ x.ks.length := by omega
                obtain ⟨hij, hwf⟩ := wf_insert wf hI hw hc
                have hkl : x.ks.length ≤ 40 := Nat.le_trans (nodup_length s.length _ (wf.nodup i x hx) (fun q hq => (wf.kid_lt u hx hq).1)) wf.cap
                refine ⟨0, 0, ⟨_, []⟩, ⟨hwf, rfl⟩, ?_, ?_⟩
                · intro w F bx hg hP
                  exact minsert_of hg hP i j c (fun F' bf h => (tinsert_done wf u h i j (ht0 j + 1) c x y hI (by omega) hm hc hij (by unfold lots; omega) (by unfold lots; omega)).mono fun e w2 h2 => h2.move)
                · rintro w F bd ⟨bn, cap, rn, rv, hD⟩
                  exact (rinsert_done hD u i j c x y hI hw hc (by unfold lots; omega) hij).mono fun e w' h => h

end Go.Proofs.YtabogkonklplcaaGreatDoor

/- marginlaw's ranges: one call of Range, SetStart, SetEnd, Span on both documents; its step. -/
namespace Go.Proofs.YtabogkonklplcaaGreatDoor
open Go.RowKit
set_option linter.unusedSimpArgs false
set_option linter.unusedVariables false

section
variable {PD : PDT} {G : World → Prop} {FP FR : Nat → Prop} {w : World} {yb bx bd : Nat} {psv : Value} {s : St}

set_option maxRecDepth 20000 in
set_option maxHeartbeats 4000000 in
theorem ranges_range (hPD : PDOk PD) (hGB : ∀ w w', G w → Below w.heap.size w w' → G w') (hA : PairAt PD FP FR w yb bx bd psv s) (hg : G w)
    (D A B C : Int) (S : ByteArray) (p0 p1 q0 q1 : Int) (h : ∃ n : Int, Ans PD G s 56 81 [] (fun v => .tuple #[.int .i64 n, v]) (fun v => .tuple #[.int .i64 n, v])) :
    Calls Tryz.prog 44 #[ptr yb, .agg #[ptr bx, ptr bd], opV 10 D A B C S p0 p1 q0 q1] w (PairPost PD FP FR w yb bx bd psv) := by
  obtain ⟨n, a, y, s', hwf, hp, hr⟩ := h
  have hB := boxed2_below w bx bd 10 D A B C S p0 p1 q0 q1
  have hbp := boxed2_pair w bx bd 10 D A B C S p0 p1 q0 q1
  have hbo := boxed2_op w bx bd 10 D A B C S p0 p1 q0 q1
  have CP := hid (hp (boxed2 w bx bd 10 D A B C S p0 p1 q0 q1) FP bx (hGB _ _ hg hB) (hPD.keeps hA.pd (Keeps.of_below (F := fun _ => False) hB) (fun _ _ e => e)))
  have HB := hid hB
  have HBP := hid hbp
  have HBO := hid hbo
  have HR := hid hr
  have HA := hid hA
  have HPD := hid hPD
  have HWF := hid hwf
  clear hp hr hB hbp hbo hA hPD hwf hg hGB
  go_enter Tryz.func44, Tryz.ntmps44
  go_wp2_with (first
    | (go_at_call 56
       refine CP.out.mono ?_
       clear CP
       rintro e w1 ⟨rfl, k1, d1⟩
       have hp1 := HA.out.old k1 (Nat.le_refl _) HBP.out
       have ho1 := HA.out.old k1 (Nat.le_succ _) HBO.out
       have c10 : w1.cell? ⟨w.heap.size, 0, none⟩ = some (ptr bx) := cell_of_heap hp1 0
       have c11 : w1.cell? ⟨w.heap.size, 1, none⟩ = some (ptr bd) := cell_of_heap hp1 1
       have c22 : w1.cell? ⟨w.heap.size + 1, 2, none⟩ = some (.int .i64 A) := cell_of_heap ho1 2
       have c23 : w1.cell? ⟨w.heap.size + 1, 3, none⟩ = some (.int .i64 B) := cell_of_heap ho1 3
       have c24 : w1.cell? ⟨w.heap.size + 1, 4, none⟩ = some (.int .i64 C) := cell_of_heap ho1 4
       have c25 : w1.cell? ⟨w.heap.size + 1, 5, none⟩ = some (.string S) := cell_of_heap ho1 5
       have CR := hid (HR.out w1 FR bd (HA.out.ref HB.out k1))
       have K1 := hid k1
       have D1 := hid d1
       clear k1 d1 hp1 ho1)
    | (go_at_call 81
       refine CR.out.mono ?_
       clear CR
       rintro e w2 ⟨rfl, k2, r2⟩
       have PL := hid (HA.out.play2 HB.out K1.out k2)
       have K2 := hid k2
       have R2 := hid r2
       clear k2 r2)
    | (go_at_call 20
       obtain ⟨l0, a0, y0, hq⟩ := PL.out
       refine (las_any yb psv l0 a0 y0 a y (w2.alloc (.cells #[.int .i64 a, .int .i64 y] 32)) ((Below.heap_alloc _ _ _ (heap_lt hq)).trans hq)).mono ?_
       rintro e w4 ⟨rfl, k4, hq4⟩
       have K4 := hid k4
       have Q4 := hid hq4
       clear k4 hq4 hq))
  go_ret
  exact pair_close HPD.out HA.out HWF.out HB.out K1.out D1.out K2.out R2.out ((((Keeps.refl (fun b => b = yb) w2).alloc _)).trans (K4.out.mono (fun k _ e => .inl e))) ⟨_, _, _, Q4.out⟩

set_option maxRecDepth 20000 in
set_option maxHeartbeats 4000000 in
theorem ranges_start (hPD : PDOk PD) (hGB : ∀ w w', G w → Below w.heap.size w w' → G w') (hA : PairAt PD FP FR w yb bx bd psv s) (hg : G w)
    (D A B C : Int) (S : ByteArray) (p0 p1 q0 q1 : Int) (h : Ans PD G s 31 82 [.int .i64 A, .agg #[.int .i64 p0, .int .i64 p1]] (fun v => v) (fun v => v)) :
    Calls Tryz.prog 44 #[ptr yb, .agg #[ptr bx, ptr bd], opV 11 D A B C S p0 p1 q0 q1] w (PairPost PD FP FR w yb bx bd psv) := by
  obtain ⟨a, y, s', hwf, hp, hr⟩ := h
  have hB := boxed2_below w bx bd 11 D A B C S p0 p1 q0 q1
  have hbp := boxed2_pair w bx bd 11 D A B C S p0 p1 q0 q1
  have hbo := boxed2_op w bx bd 11 D A B C S p0 p1 q0 q1
  have CP := hid (hp (boxed2 w bx bd 11 D A B C S p0 p1 q0 q1) FP bx (hGB _ _ hg hB) (hPD.keeps hA.pd (Keeps.of_below (F := fun _ => False) hB) (fun _ _ e => e)))
  have HB := hid hB
  have HBP := hid hbp
  have HBO := hid hbo
  have HR := hid hr
  have HA := hid hA
  have HPD := hid hPD
  have HWF := hid hwf
  clear hp hr hB hbp hbo hA hPD hwf hg hGB
  go_enter Tryz.func44, Tryz.ntmps44
  go_wp2_with (first
    | (go_at_call 31
       refine CP.out.mono ?_
       clear CP
       rintro e w1 ⟨rfl, k1, d1⟩
       have hp1 := HA.out.old k1 (Nat.le_refl _) HBP.out
       have ho1 := HA.out.old k1 (Nat.le_succ _) HBO.out
       have c10 : w1.cell? ⟨w.heap.size, 0, none⟩ = some (ptr bx) := cell_of_heap hp1 0
       have c11 : w1.cell? ⟨w.heap.size, 1, none⟩ = some (ptr bd) := cell_of_heap hp1 1
       have c22 : w1.cell? ⟨w.heap.size + 1, 2, none⟩ = some (.int .i64 A) := cell_of_heap ho1 2
       have c23 : w1.cell? ⟨w.heap.size + 1, 3, none⟩ = some (.int .i64 B) := cell_of_heap ho1 3
       have c24 : w1.cell? ⟨w.heap.size + 1, 4, none⟩ = some (.int .i64 C) := cell_of_heap ho1 4
       have c25 : w1.cell? ⟨w.heap.size + 1, 5, none⟩ = some (.string S) := cell_of_heap ho1 5
       have c26 : w1.cell? ⟨w.heap.size + 1, 6, none⟩ = some (.int .i64 p0) := cell_of_heap ho1 6
       have c27 : w1.cell? ⟨w.heap.size + 1, 7, none⟩ = some (.int .i64 p1) := cell_of_heap ho1 7
       have CR := hid (HR.out w1 FR bd (HA.out.ref HB.out k1))
       have K1 := hid k1
       have D1 := hid d1
       clear k1 d1 hp1 ho1)
    | (go_at_call 82
       refine CR.out.mono ?_
       clear CR
       rintro e w2 ⟨rfl, k2, r2⟩
       have PL := hid (HA.out.play2 HB.out K1.out k2)
       have K2 := hid k2
       have R2 := hid r2
       clear k2 r2)
    | (go_at_call 20
       obtain ⟨l0, a0, y0, hq⟩ := PL.out
       refine (las_any yb psv l0 a0 y0 a y w2 hq).mono ?_
       rintro e w4 ⟨rfl, k4, hq4⟩
       have K4 := hid k4
       have Q4 := hid hq4
       clear k4 hq4 hq))
  go_ret
  exact pair_close HPD.out HA.out HWF.out HB.out K1.out D1.out K2.out R2.out K4.out ⟨_, _, _, Q4.out⟩

set_option maxRecDepth 20000 in
set_option maxHeartbeats 4000000 in
theorem ranges_end (hPD : PDOk PD) (hGB : ∀ w w', G w → Below w.heap.size w w' → G w') (hA : PairAt PD FP FR w yb bx bd psv s) (hg : G w)
    (D A B C : Int) (S : ByteArray) (p0 p1 q0 q1 : Int) (h : Ans PD G s 32 83 [.int .i64 A, .agg #[.int .i64 p0, .int .i64 p1]] (fun v => v) (fun v => v)) :
    Calls Tryz.prog 44 #[ptr yb, .agg #[ptr bx, ptr bd], opV 12 D A B C S p0 p1 q0 q1] w (PairPost PD FP FR w yb bx bd psv) := by
  obtain ⟨a, y, s', hwf, hp, hr⟩ := h
  have hB := boxed2_below w bx bd 12 D A B C S p0 p1 q0 q1
  have hbp := boxed2_pair w bx bd 12 D A B C S p0 p1 q0 q1
  have hbo := boxed2_op w bx bd 12 D A B C S p0 p1 q0 q1
  have CP := hid (hp (boxed2 w bx bd 12 D A B C S p0 p1 q0 q1) FP bx (hGB _ _ hg hB) (hPD.keeps hA.pd (Keeps.of_below (F := fun _ => False) hB) (fun _ _ e => e)))
  have HB := hid hB
  have HBP := hid hbp
  have HBO := hid hbo
  have HR := hid hr
  have HA := hid hA
  have HPD := hid hPD
  have HWF := hid hwf
  clear hp hr hB hbp hbo hA hPD hwf hg hGB
  go_enter Tryz.func44, Tryz.ntmps44
  go_wp2_with (first
    | (go_at_call 32
       refine CP.out.mono ?_
       clear CP
       rintro e w1 ⟨rfl, k1, d1⟩
       have hp1 := HA.out.old k1 (Nat.le_refl _) HBP.out
       have ho1 := HA.out.old k1 (Nat.le_succ _) HBO.out
       have c10 : w1.cell? ⟨w.heap.size, 0, none⟩ = some (ptr bx) := cell_of_heap hp1 0
       have c11 : w1.cell? ⟨w.heap.size, 1, none⟩ = some (ptr bd) := cell_of_heap hp1 1
       have c22 : w1.cell? ⟨w.heap.size + 1, 2, none⟩ = some (.int .i64 A) := cell_of_heap ho1 2
       have c23 : w1.cell? ⟨w.heap.size + 1, 3, none⟩ = some (.int .i64 B) := cell_of_heap ho1 3
       have c24 : w1.cell? ⟨w.heap.size + 1, 4, none⟩ = some (.int .i64 C) := cell_of_heap ho1 4
       have c25 : w1.cell? ⟨w.heap.size + 1, 5, none⟩ = some (.string S) := cell_of_heap ho1 5
       have c26 : w1.cell? ⟨w.heap.size + 1, 6, none⟩ = some (.int .i64 p0) := cell_of_heap ho1 6
       have c27 : w1.cell? ⟨w.heap.size + 1, 7, none⟩ = some (.int .i64 p1) := cell_of_heap ho1 7
       have CR := hid (HR.out w1 FR bd (HA.out.ref HB.out k1))
       have K1 := hid k1
       have D1 := hid d1
       clear k1 d1 hp1 ho1)
    | (go_at_call 83
       refine CR.out.mono ?_
       clear CR
       rintro e w2 ⟨rfl, k2, r2⟩
       have PL := hid (HA.out.play2 HB.out K1.out k2)
       have K2 := hid k2
       have R2 := hid r2
       clear k2 r2)
    | (go_at_call 20
       obtain ⟨l0, a0, y0, hq⟩ := PL.out
       refine (las_any yb psv l0 a0 y0 a y w2 hq).mono ?_
       rintro e w4 ⟨rfl, k4, hq4⟩
       have K4 := hid k4
       have Q4 := hid hq4
       clear k4 hq4 hq))
  go_ret
  exact pair_close HPD.out HA.out HWF.out HB.out K1.out D1.out K2.out R2.out K4.out ⟨_, _, _, Q4.out⟩

set_option maxRecDepth 20000 in
set_option maxHeartbeats 4000000 in
theorem ranges_span (hPD : PDOk PD) (hGB : ∀ w w', G w → Below w.heap.size w w' → G w') (hA : PairAt PD FP FR w yb bx bd psv s) (hg : G w)
    (D A B C : Int) (S : ByteArray) (p0 p1 q0 q1 : Int) (h : ∃ a0 a1 b0 b1' : Int, Ans PD G s 36 84 [.int .i64 A] (fun v => .tuple #[.agg #[.int .i64 a0, .int .i64 a1, .int .i64 b0, .int .i64 b1'], v]) (fun v => .tuple #[.agg #[.int .i64 a0, .int .i64 a1, .int .i64 b0, .int .i64 b1'], v])) :
    Calls Tryz.prog 44 #[ptr yb, .agg #[ptr bx, ptr bd], opV 13 D A B C S p0 p1 q0 q1] w (PairPost PD FP FR w yb bx bd psv) := by
  obtain ⟨a0, a1, b0, b1', a, y, s', hwf, hp, hr⟩ := h
  have hB := boxed2_below w bx bd 13 D A B C S p0 p1 q0 q1
  have hbp := boxed2_pair w bx bd 13 D A B C S p0 p1 q0 q1
  have hbo := boxed2_op w bx bd 13 D A B C S p0 p1 q0 q1
  have CP := hid (hp (boxed2 w bx bd 13 D A B C S p0 p1 q0 q1) FP bx (hGB _ _ hg hB) (hPD.keeps hA.pd (Keeps.of_below (F := fun _ => False) hB) (fun _ _ e => e)))
  have HB := hid hB
  have HBP := hid hbp
  have HBO := hid hbo
  have HR := hid hr
  have HA := hid hA
  have HPD := hid hPD
  have HWF := hid hwf
  clear hp hr hB hbp hbo hA hPD hwf hg hGB
  go_enter Tryz.func44, Tryz.ntmps44
  go_wp2_with (first
    | (go_at_call 36
       refine CP.out.mono ?_
       clear CP
       rintro e v1 ⟨rfl, kv, dv⟩
       have k1 : Keeps FP (boxed2 w bx bd 13 D A B C S p0 p1 q0 q1) (v1.alloc (.cells #[.int .i64 a0, .int .i64 a1, .int .i64 b0, .int .i64 b1'] 79)) := kv.alloc _
       have d1 : PD (v1.alloc (.cells #[.int .i64 a0, .int .i64 a1, .int .i64 b0, .int .i64 b1'] 79)) (grow FP (boxed2 w bx bd 13 D A B C S p0 p1 q0 q1)) bx s' := HPD.out.keeps dv ((Keeps.refl (fun _ => False) v1).alloc _) (fun _ _ e => e)
       have hp1 := HA.out.old kv (Nat.le_refl _) HBP.out
       have ho1 := HA.out.old kv (Nat.le_succ _) HBO.out
       have hl1 := heap_lt hp1
       have hl2 := heap_lt ho1
       have c10 : v1.cell? ⟨w.heap.size, 0, none⟩ = some (ptr bx) := cell_of_heap hp1 0
       have c11 : v1.cell? ⟨w.heap.size, 1, none⟩ = some (ptr bd) := cell_of_heap hp1 1
       have c22 : v1.cell? ⟨w.heap.size + 1, 2, none⟩ = some (.int .i64 A) := cell_of_heap ho1 2
       have CR := hid (HR.out (v1.alloc (.cells #[.int .i64 a0, .int .i64 a1, .int .i64 b0, .int .i64 b1'] 79)) FR bd (HA.out.ref HB.out k1))
       have HSP := hid (heap_alloc_new v1 (.cells #[.int .i64 a0, .int .i64 a1, .int .i64 b0, .int .i64 b1'] 79))
       have K1 := hid k1
       have D1 := hid d1
       have VL := hid (Nat.le_trans HB.out.size kv.size)
       clear k1 d1 hp1 ho1 kv dv)
    | (go_at_call 84
       refine CR.out.mono ?_
       clear CR
       rintro e w2 ⟨rfl, k2, r2⟩
       have hs2 := HA.out.old2 k2 VL.out HSP.out
       have t0 : w2.cell? ⟨v1.heap.size, 0, none⟩ = some (.int .i64 a0) := cell_of_heap hs2 0
       have t1 : w2.cell? ⟨v1.heap.size, 1, none⟩ = some (.int .i64 a1) := cell_of_heap hs2 1
       have t2 : w2.cell? ⟨v1.heap.size, 2, none⟩ = some (.int .i64 b0) := cell_of_heap hs2 2
       have t3 : w2.cell? ⟨v1.heap.size, 3, none⟩ = some (.int .i64 b1') := cell_of_heap hs2 3
       have hl3 := heap_lt hs2
       have HS2 := hid hs2
       clear hs2
       have PL := hid (HA.out.play2 HB.out K1.out k2)
       have K2 := hid k2
       have R2 := hid r2
       clear k2 r2)
    | (go_at_call 20
       obtain ⟨l0, e0, y0, hq⟩ := PL.out
       have hyl := heap_lt hq
       have hyw : yb < w.heap.size := by obtain ⟨_, _, _, h⟩ := HA.out.play; exact heap_lt h
       refine (las_any yb psv l0 e0 y0 a y ((w2.alloc (.cells #[.int .i64 a0, .int .i64 a1, .int .i64 b0, .int .i64 b1'] 79)).alloc (.cells #[.int .i64 a, .int .i64 y] 32)) ((Below.heap_alloc _ _ _ (by simp; omega)).trans ((Below.heap_alloc _ _ _ hyl).trans hq))).mono ?_
       rintro e w4 ⟨rfl, k4, hq4⟩
       have b1 := (k4.block v1.heap.size (by simp; omega) (by have := VL.out; omega)).trans ((Below.heap_alloc _ _ _ (by simp; omega)).trans ((Below.heap_alloc _ _ _ hl3).trans HS2.out))
       have b2 := (k4.block w2.heap.size (by simp; omega) (by have := VL.out; omega)).trans ((Below.heap_alloc _ _ _ (by simp)).trans (heap_alloc_new w2 (.cells #[.int .i64 a0, .int .i64 a1, .int .i64 b0, .int .i64 b1'] 79)))
       have m0 : w4.cell? ⟨v1.heap.size, 0, none⟩ = some (.int .i64 a0) := cell_of_heap b1 0
       have m1 : w4.cell? ⟨v1.heap.size, 1, none⟩ = some (.int .i64 a1) := cell_of_heap b1 1
       have m2 : w4.cell? ⟨v1.heap.size, 2, none⟩ = some (.int .i64 b0) := cell_of_heap b1 2
       have m3 : w4.cell? ⟨v1.heap.size, 3, none⟩ = some (.int .i64 b1') := cell_of_heap b1 3
       have n0 : w4.cell? ⟨w2.heap.size, 0, none⟩ = some (.int .i64 a0) := cell_of_heap b2 0
       have n1 : w4.cell? ⟨w2.heap.size, 1, none⟩ = some (.int .i64 a1) := cell_of_heap b2 1
       have n2 : w4.cell? ⟨w2.heap.size, 2, none⟩ = some (.int .i64 b0) := cell_of_heap b2 2
       have n3 : w4.cell? ⟨w2.heap.size, 3, none⟩ = some (.int .i64 b1') := cell_of_heap b2 3
       have K4 := hid k4
       have Q4 := hid hq4
       clear k4 hq4 hq b1 b2))
  go_ret
  exact pair_close HPD.out HA.out HWF.out HB.out K1.out D1.out K2.out R2.out ((((Keeps.refl (fun b => b = yb) w2).alloc _).alloc _).trans (K4.out.mono (fun k _ e => .inl e))) ⟨_, _, _, Q4.out⟩
end

section
variable {PD : PDT} {Q : Nat → Prop} {w0 w : World} {yb : Nat} {docs : List DocR}

set_option maxRecDepth 20000 in
set_option maxHeartbeats 4000000 in
theorem step_ranges (hPD : PDOk PD) (h : InvE PD Q w0 w yb docs) (kind D A B C : Int) (S : ByteArray) (p0 p1 q0 q1 : Int) (hk2 : 10 ≤ kind) (hk6 : kind ≤ 15) (hd0 : 0 < docs.length) (hdl : docs.length < lots)
    (hD1 : -9223372036854775808 ≤ D) (hD2 : D ≤ 9223372036854775807)
    (hN : ∀ (W : World) (own : Nat → Nat) (psv : Value) (i : Nat) (d : DocR), docs[i]? = some d → Inv PD Q w0 W yb docs own psv →
      Calls Tryz.prog 44 #[ptr yb, .agg #[ptr d.bx, ptr d.bd], opV kind D A B C S p0 p1 q0 q1] W (PairPost PD (fun b => own b = 2 * i + 2) (fun b => own b = 2 * i + 3) W yb d.bx d.bd psv)) :
    Calls Tryz.prog 15 #[ptr yb, opV kind D A B C S p0 p1 q0 q1] w (StepPost PD Q w0 yb docs.length docs.length) := by
  have hI := h
  obtain ⟨own, psv, h⟩ := h
  rcases row_cases h.row with ⟨_, hz⟩ | ⟨g, c, hv⟩
  · omega
  have hrow := h.row
  rw [hv] at hrow
  obtain ⟨l0, a0, y0, hq⟩ := h.play
  have hl := heap_lt hq
  have c0 : w.cell? ⟨yb, 0, none⟩ = some (.slice (some ⟨g, 0, none⟩) docs.length c) := by rw [← hv]; exact cell_of_heap hq 0
  have hi := pickN_lt D hd0
  obtain ⟨i, hie⟩ : ∃ i, pickN D docs.length = i := ⟨_, rfl⟩
  rw [hie] at hi
  have hd : docs[i]? = some docs[i] := List.getElem?_eq_getElem hi
  generalize docs[i] = d at hd
  have hpg := pairs_get docs i d hd
  have cx : w.cell? ⟨g, i * 2, none⟩ = some (ptr d.bx) := by rw [hrow.cellAt (i * 2) (by omega)]; exact hpg.1
  have cd : w.cell? ⟨g, i * 2 + 1, none⟩ = some (ptr d.bd) := by rw [hrow.cellAt (i * 2 + 1) (by omega)]; exact hpg.2
  have hgl : g < w.heap.size := (hrow.lt g rfl).2
  have hk1' : (kind == 1) = false := by simp; omega
  have hk2' : decide (kind < 2) = false := decide_eq_false (by omega)
  have hk3' : decide (15 < kind) = false := decide_eq_false (by omega)
  have h0' : ((docs.length : Int) == 0) = false := by simp; intro e; rw [e] at hd0; simp at hd0
  have hk6' : decide (kind ≤ 6) = false := decide_eq_false (by omega)
  have hk9' : decide (kind ≤ 9) = false := decide_eq_false (by omega)
  have PICK := hid (pick_any D docs.length hd0 hdl hD1 hD2)
  have hil : i < docs.length := hi
  have HIE := hid hie
  have HDL := hid hdl
  have HI := hid hI
  have HPD := hid hPD
  have HN := hid hN
  have HD := hid hd
  clear hq h hI hPD hv hrow hN hd hpg hi hie hdl hD1 hD2
  go_enter Tryz.func15, Tryz.ntmps15
  go_wp2
  go_region_held3 (fun w' => w'.cell? ⟨yb, 0, none⟩ = some (.slice (some ⟨g, 0, none⟩) docs.length c) ∧ w'.cell? ⟨w.heap.size, 1, none⟩ = some (.int .i64 D) ∧ w'.cell? ⟨g, i * 2, none⟩ = some (ptr d.bx) ∧ w'.cell? ⟨g, i * 2 + 1, none⟩ = some (ptr d.bd)) (go_keep) (first
    | (go_at_call 21; refine (PICK.out _).mono ?_; rintro e w' ⟨rfl, rfl⟩; rw [HIE.out]))
  all_goals
    have hb : Below w.heap.size w (((w.alloc (.cells (opCells kind D A B C S p0 p1 q0 q1) 39)).alloc (.cells #[ptr d.bx, ptr d.bd] 44)).drew) := (((Below.refl _ w).alloc (Nat.le_refl _) _).alloc (by simp) _).drew
    obtain ⟨own2, psv2, hI2⟩ := HI.out.below HPD.out hb
    have CN := hid (HN.out (((w.alloc (.cells (opCells kind D A B C S p0 p1 q0 q1) 39)).alloc (.cells #[ptr d.bx, ptr d.bd] 44)).drew) own2 psv2 i d HD.out hI2)
    have HI2 := hid hI2
    clear hb hI2
    go_wp2_with (go_at_call 44; refine CN.out.mono ?_; intro e w3 hp; have he := hp.1; subst he; have HP := hid hp; clear hp)
    go_ret
    exact HI2.out.stepped HPD.out HD.out HP.out
end

/-- The program's calls of stage 3, beside the document's own. -/
structure Answers3 (PD : PDT) (G : World → Prop) : Prop extends Answers2 PD G where
  range : ∀ s, PD.ok s → ∃ n : Int, Ans PD G s 56 81 [] (fun v => .tuple #[.int .i64 n, v]) (fun v => .tuple #[.int .i64 n, v])
  start : ∀ s, PD.ok s → ∀ A p0 p1 : Int, Ans PD G s 31 82 [.int .i64 A, .agg #[.int .i64 p0, .int .i64 p1]] (fun v => v) (fun v => v)
  finish : ∀ s, PD.ok s → ∀ A p0 p1 : Int, Ans PD G s 32 83 [.int .i64 A, .agg #[.int .i64 p0, .int .i64 p1]] (fun v => v) (fun v => v)
  span : ∀ s, PD.ok s → ∀ A : Int, ∃ a0 a1 b0 b1 : Int, Ans PD G s 36 84 [.int .i64 A] (fun v => .tuple #[.agg #[.int .i64 a0, .int .i64 a1, .int .i64 b0, .int .i64 b1], v]) (fun v => .tuple #[.agg #[.int .i64 a0, .int .i64 a1, .int .i64 b0, .int .i64 b1], v])

theorem steps_ranges {PD : PDT} {G : World → Prop} (hA : Answers3 PD G) {Q : Nat → Prop} {w0 : World} {yb : Nat} (hG : ∀ W, Keeps Q w0 W → G W) (o : OpR) (ho : OpOk o) (hk : 10 ≤ o.kind ∧ o.kind ≤ 13) (W : World) (docs : List DocR) (hI : InvE PD Q w0 W yb docs) (hdl : docs.length < lots) :
    Calls Tryz.prog 15 #[ptr yb, o.val] W (StepPost PD Q w0 yb docs.length docs.length) := by
  obtain ⟨kind, D, A, B, C, S, p0, p1, q0, q1⟩ := o
  obtain ⟨d1, d2, hs⟩ := ho
  simp only at d1 d2 hs hk
  by_cases h0 : docs.length = 0
  · exact step_none hA.pd hI kind D A B C S p0 p1 q0 q1 (by omega) (.inl h0)
  refine step_ranges hA.pd hI kind D A B C S p0 p1 q0 q1 hk.1 (by omega) (by omega) hdl d1 d2 (fun W1 own psv i d hd hI1 => ?_)
  have hp := hI1.pair hd
  have hwf := (hI1.doc i d hd).2.2
  have hg := hG _ hI1.fr
  have hc : kind = 10 ∨ kind = 11 ∨ kind = 12 ∨ kind = 13 := by omega
  rcases hc with rfl | rfl | rfl | rfl
  · exact ranges_range hA.pd hA.gb hp hg D A B C S p0 p1 q0 q1 (hA.range d.s hwf)
  · exact ranges_start hA.pd hA.gb hp hg D A B C S p0 p1 q0 q1 (hA.start d.s hwf A p0 p1)
  · exact ranges_end hA.pd hA.gb hp hg D A B C S p0 p1 q0 q1 (hA.finish d.s hwf A p0 p1)
  · exact ranges_span hA.pd hA.gb hp hg D A B C S p0 p1 q0 q1 (hA.span d.s hwf A)

/-- The kinds of Ranges: all to Split, and Range to Span. -/
theorem steps_of3 {PD : PDT} {G : World → Prop} (hA : Answers3 PD G) {Q : Nat → Prop} {w0 : World} {yb : Nat} (hG : ∀ W, Keeps Q w0 W → G W) : Steps PD Q w0 yb (fun k => 1 ≤ k ∧ k ≤ 13 ∧ k ≠ 9) := by
  intro o ho hk W docs hI hdl
  by_cases h6 : o.kind ≤ 6
  · exact steps_of hA.toAnswers hG o ho ⟨hk.1, h6⟩ W docs hI hdl
  · by_cases h8 : o.kind ≤ 8
    · refine (steps_texts hA.toAnswers2 hG o ho ⟨by omega, by omega⟩ (fun h => absurd h hk.2.2) W docs hI hdl).mono ?_
      rintro e w' ⟨he, docs', h, hm, hl⟩
      exact ⟨he, docs', h, hm, by omega⟩
    · refine (steps_ranges hA hG o ho ⟨by omega, hk.2.1⟩ W docs hI hdl).mono ?_
      rintro e w' ⟨he, docs', h, hm, hl⟩
      exact ⟨he, docs', h, hm, by omega⟩

end Go.Proofs.YtabogkonklplcaaGreatDoor
