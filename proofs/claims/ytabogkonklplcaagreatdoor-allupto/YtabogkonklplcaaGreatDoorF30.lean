import Derived.Test.YtabogkonklplcaaGreatDoorF24
import Derived.Test.YtabogkonklplcaaGreatDoorF29
import Derived.Test.YtabogkonklplcaaGreatDoorF18
import Derived.Test.YtabogkonklplcaaGreatDoorF21
import Derived.Test.YtabogkonklplcaaGreatDoorF06

/- tree.Split. -/
namespace Go.Proofs.YtabogkonklplcaaGreatDoor
open Go.RowKit Go.Lib
set_option linter.unusedSimpArgs false
set_option linter.unusedVariables false

/-- What Split of the forest's must have left that was made. -/
def TSplit (F : Nat → Prop) (w : World) (bf : Nat) (s' : List Nd) (n : Int) (e : Ending) (w' : World) : Prop := ∃ mv, e = .returned (.tuple #[.int .i64 n, mv, .nilIface]) ∧ Keeps F w w' ∧ PFor w' (grow F w) bf s'
/-- .. with the function that moves places. -/
def TSv (f : Mvf) (F : Nat → Prop) (w : World) (bf : Nat) (s' : List Nd) (n : Int) (e : Ending) (w' : World) : Prop := ∃ mv m, e = .returned (.tuple #[.int .i64 n, mv, .nilIface]) ∧ Keeps F w w' ∧ w.heap.size ≤ m ∧ m ≤ w'.heap.size ∧ PFor w' (fun b => F b ∨ (w.heap.size ≤ b ∧ b < m)) bf s' ∧ MoveOk m w' mv f
theorem TSv.split {f : Mvf} {F : Nat → Prop} {w : World} {bf : Nat} {s' : List Nd} {n : Int} {e : Ending} {w' : World} (h : TSv f F w bf s' n e w') : TSplit F w bf s' n e w' := by
  obtain ⟨mv, m, rfl, hk, h1, h2, hf, hm⟩ := h
  exact ⟨mv, rfl, hk, hf.wider (fun b h => h.elim .inl (fun h => .inr h.1))⟩

section
variable {w : World} {F : Nat → Prop} {bf : Nat} {s : List Nd}

set_option maxHeartbeats 400000 in
theorem tsplit_unfit (hD : PFor w F bf s) (n o : Int) (u : Value) (hT : Calls Tryz.prog 101 #[ptr bf, .int .i64 n] w fun e w' => e = .returned (.iface 145 u) ∧ w' = w) :
    Calls Tryz.prog 63 #[ptr bf, .int .i64 n, .int .i64 o] w (TPost F w bf s (.tuple #[.int .i64 0, .nilFunc, .iface 145 u])) := by
  have HD := hid hD
  have C := hid hT
  clear hD hT
  go_enter Tryz.func63, Tryz.ntmps63
  go_wp2_with (go_at_call 101; refine C.out.mono ?_; rintro e w1 ⟨rfl, rfl⟩)
  refine bodyPost_ret (v := .tuple #[.int .i64 0, .nilFunc, .iface 145 u]) (by simp [results, Tryz.results63, go_sem]) rfl ?_
  exact ⟨rfl, Keeps.refl _ _, HD.out.wider (fun b h => .inl h)⟩

set_option maxHeartbeats 1000000 in
theorem tsplit_out (hD : PFor w F bf s) (n : Nat) (o : Int) (x : Nd) (hx : s[n]? = some x) (ht : x.t = true) (hch : ∀ d ∈ x.cs, IsCh d) (hl : x.cs.length < lots) (ho : o < 0 ∨ (x.cs.length : Int) < o) :
    Calls Tryz.prog 63 #[ptr bf, .int .i64 n, .int .i64 o] w (TPost F w bf s (.tuple #[.int .i64 0, .nilFunc, .iface 145 (.agg #[.int .i64 n, outV o])])) := by
  have HD := hid hD
  obtain ⟨bn, cap, pn, hD⟩ := hD
  have hi : n < s.length := (List.getElem?_eq_some_iff.1 hx).1
  have C := hid (findText_ok hD n x hx ht)
  have C2 := hid (fun w1 => find_out x.cs hch hl o ho w1)
  have h0 := hD.nodesCell
  obtain ⟨r, hr, ho', c0, c1, c2, c3⟩ := hD.look hx
  clear hD c0 c1 c2 hr ho' hx hch
  go_enter Tryz.func63, Tryz.ntmps63
  go_wp2_with first
    | (go_at_call 101; refine C.out.mono ?_; rintro e w1 ⟨rfl, hw1⟩; replace hw1 := hw1.symm; subst hw1)
    | (go_at_call 102; refine (C2.out _).mono ?_; rintro e w2 ⟨rfl, hb2⟩)
  refine bodyPost_ret (v := .tuple #[.int .i64 0, .nilFunc, .iface 145 (.agg #[.int .i64 n, outV o])]) (by simp [results, Tryz.results63, go_sem]) rfl ?_
  exact ⟨rfl, Keeps.of_below hb2, (HD.out.below hb2).wider (fun b h => .inl h)⟩

set_option maxHeartbeats 1000000 in
theorem tsplit_full (hD : PFor w F bf s) (n k : Nat) (x : Nd) (hx : s[n]? = some x) (ht : x.t = true) (hch : ∀ d ∈ x.cs, IsCh d) (hl : x.cs.length ≤ 30) (ho : k ≤ x.cs.length) (h40 : 40 ≤ s.length) :
    Calls Tryz.prog 63 #[ptr bf, .int .i64 n, .int .i64 (k : Int)] w (TPost F w bf s (.tuple #[.int .i64 0, .nilFunc, refusalV n 7])) := by
  have HD := hid hD
  obtain ⟨bn, cap, pn, hD⟩ := hD
  have hi : n < s.length := (List.getElem?_eq_some_iff.1 hx).1
  have C := hid (findText_ok hD n x hx ht)
  have C2 := hid (fun w1 => find_at x.cs hch (by unfold lots; omega) k ho w1)
  have h0 := hD.nodesCell
  obtain ⟨r, hr, ho', c0, c1, c2, c3⟩ := hD.look hx
  have s1 := (cat_split x.cs k).2
  have z1 := cat_le x.cs k
  have z2 := cat_size x.cs hch
  have H4 := hid h40
  obtain ⟨p, hp⟩ : ∃ p, (catB (x.cs.take k)).size = p := ⟨_, rfl⟩
  rw [hp] at C2 s1 z1
  obtain ⟨S, hS⟩ : ∃ S, catB x.cs = S := ⟨_, rfl⟩
  rw [hS] at C2 s1 z1 c3 z2
  have pI : (p : Int) ≤ S.size := by omega
  clear hD c0 c1 c2 hr ho' hx hch hp hS h40
  go_enter Tryz.func63, Tryz.ntmps63
  go_wp2_with first
    | (go_at_call 101; refine C.out.mono ?_; rintro e w1 ⟨rfl, hw1⟩; replace hw1 := hw1.symm; subst hw1)
    | (go_at_call 102; refine (C2.out _).mono ?_; rintro e w2 ⟨rfl, hb2⟩)
    | (go_at_call 103; refine (addText_full (HD.out.below hb2) H4.out _ _).mono ?_; rintro e w3 ⟨rfl, hb3⟩)
  refine bodyPost_ret (v := .tuple #[.int .i64 0, .nilFunc, refusalV n 7]) (by simp [results, Tryz.results63, go_sem]) rfl ?_
  have hb := hb2.trans (hb3.mono hb2.size)
  exact ⟨rfl, Keeps.of_below hb, (HD.out.below hb).wider (fun b h => .inl h)⟩

set_option maxRecDepth 20000 in
set_option maxHeartbeats 1000000 in
theorem tsplit_top (hD : PFor w F bf s) (n k : Nat) (x : Nd) (hx : s[n]? = some x) (ht : x.t = true) (hch : ∀ d ∈ x.cs, IsCh d) (hl : x.cs.length ≤ 30) (ho : k ≤ x.cs.length) (h40 : s.length < 40) (hp1 : x.p = -1) :
    Calls Tryz.prog 63 #[ptr bf, .int .i64 n, .int .i64 (k : Int)] w (TSv (resizeF n k ((x.cs.length - k : Nat) : Int) 0) F w bf ((s ++ [(⟨true, x.cs.drop k, [], -1⟩ : Nd)]).set n { x with cs := x.cs.take k }) s.length) := by
  have HD := hid hD
  obtain ⟨bn, cap, pn, hD⟩ := hD
  have hi : n < s.length := (List.getElem?_eq_some_iff.1 hx).1
  have C := hid (findText_ok hD n x hx ht)
  have C2 := hid (fun w1 => find_at x.cs hch (by unfold lots; omega) k ho w1)
  have CC := hid (fun w1 => count_any (x.cs.drop k) (fun d hd => hch d (List.mem_of_mem_drop hd)) (by simp; unfold lots; omega) w1)
  rw [List.length_drop] at CC
  have h0 := hD.nodesCell
  obtain ⟨r, hr, ho', c0, c1, c2, c3⟩ := hD.look hx
  have s1 := (cat_split x.cs k).2
  have s2 := (cat_split x.cs k).1
  have z1 := cat_le x.cs k
  have z2 := cat_size x.cs hch
  have H4 := hid h40
  have HX := hid hx
  have HP := hid hp1
  obtain ⟨p, hp⟩ : ∃ p, (catB (x.cs.take k)).size = p := ⟨_, rfl⟩
  rw [hp] at C2 s1 s2 z1
  obtain ⟨S, hS⟩ : ∃ S, catB x.cs = S := ⟨_, rfl⟩
  rw [hS] at C2 s1 s2 z1 c3 z2
  have pI : (p : Int) ≤ S.size := by omega
  clear hD c0 c1 c2 hr ho' hx hch hp hS h40 hp1
  go_enter Tryz.func63, Tryz.ntmps63
  go_wp2_with first
    | (go_at_call 101; refine C.out.mono ?_; rintro e w1 ⟨rfl, hw1⟩; replace hw1 := hw1.symm; subst hw1)
    | (go_at_call 102; refine (C2.out _).mono ?_; rintro e w2 ⟨rfl, hb2⟩)
    | (go_at_call 103; refine (addText_some (HD.out.below hb2) H4.out (x.cs.drop k) n).mono ?_; rintro e w3 ⟨rfl, hk3, bn3, cap3, pn3, hf3⟩
       have hx3 : (s ++ [(⟨true, x.cs.drop k, [], -1⟩ : Nd)])[n]? = some x := by rw [List.getElem?_append_left hi]; exact HX.out
       have g0 := hf3.nodesCell
       rw [List.length_append] at g0
       simp only [List.length_cons, List.length_nil, Nat.zero_add] at g0
       obtain ⟨r3, hr3, ho3, e0, e1, e2, e3⟩ := hf3.look hx3
       rw [HP.out] at e0
       obtain ⟨gv, g4, gf⟩ := hf3.cellsThere (i := n) (k := 3) (by rw [List.length_append]; omega) (by omega)
       obtain ⟨pn4, h4⟩ := hf3.newChars (cs' := x.cs.take k) hx3
       have H5 := hid (And.intro hk3 (And.intro h4 hf3.Fn))
       have hlt3 := hf3.lt
       have hne3 : ¬ bf = bn3 := hf3.ne
       clear hr3 ho3 e1 e2 hk3 h4 hf3 hx3)
  go_region
  go_wp2_with first
    | (go_at_call 105; refine (CC.out _).mono ?_; rintro e w5 ⟨rfl, hb5⟩)
    | (go_at_call 104; refine (resize_at _ _ _ _ _ (by omega) (by omega) (by omega) (by omega) (by omega) (by omega)).mono ?_; rintro e w6 ⟨bs, rfl, hb6, hM6⟩
       have H6 := hid hM6
       clear hM6)
  refine bodyPost_ret (v := .tuple #[.int .i64 s.length, .func (.func 154) #[] bs, .nilIface]) (by simp [results, Tryz.results63, go_sem]) rfl ?_
  obtain ⟨hk3, h4, hfn⟩ := H5.out
  have hb := hb5.trans (hb6.mono hb5.size)
  have hz2 := hb2.size
  have hk : Keeps F w w3 := (Keeps.of_below hb2).trans (hk3.mono (fun b _ e => .inl e))
  have hz5 : w3.heap.size ≤ w5.heap.size := by
    have := hb5.size
    simp only [World.size_drew, World.size_setCell] at this
    exact this
  have hz3 := hk3.size
  refine ⟨_, w5.heap.size, rfl, (hk.setCell (p := ⟨bn3, n * 4 + 3, none⟩) ?_ _).drew.trans (Keeps.of_below hb), by omega, hb6.size, ⟨bn3, cap3, pn4, (h4.drew.narrow.below hb).wider (fun b h => ?_)⟩, H6.out⟩
  · rcases hfn with e | e
    · exact .inl e
    · exact .inr (by show w.heap.size ≤ bn3; omega)
  · have h2 : b < w3.heap.size := by
      have := h.2
      simp only [World.size_drew, World.size_setCell] at this
      exact this
    rcases h.1 with e | e
    · exact .inl e
    · exact .inr ⟨by omega, by omega⟩
end

end Go.Proofs.YtabogkonklplcaaGreatDoor

/- tree.mayInsert where it must look at trees; tree.Insert; the document's answers at Insert. -/
namespace Go.Proofs.YtabogkonklplcaaGreatDoor
open Go.RowKit
set_option linter.unusedSimpArgs false
set_option linter.unusedVariables false

section
variable {w : World} {F : Nat → Prop} {bf bn cap : Nat} {pn : List PN} {s : List Nd}

set_option maxHeartbeats 1000000 in
theorem may_root (hD : PForAt w F bf bn cap pn s) (i : Nat) (C : Int) (x : Nd) (hx : s[i]? = some x) (ht : x.t = false) : Calls Tryz.prog 146 #[ptr bf, .int .i64 i, .int .i64 0, .int .i64 C] w fun e w' => e = .returned (refusalV 0 4) ∧ Below w.heap.size w w' := by
  have hi : i < s.length := (List.getElem?_eq_some_iff.1 hx).1
  have C1 := hid (find_yes hD i (isB_of (by omega)))
  have C2 := hid (find_yes hD 0 (isB_of (by omega)))
  have h0 := hD.nodesCell
  obtain ⟨r, hr, ho, c0, c1, c2, c3⟩ := hD.look hx
  rw [ht] at c1
  clear hD hx ho hr c0 c2 c3
  go_enter Tryz.func146, Tryz.ntmps146
  go_wp2_with (go_at_call 87; (first | (refine C1.out.mono ?_; clear C1; rintro e w1 ⟨rfl, hw1⟩; subst hw1) | (refine C2.out.mono ?_; clear C2; rintro e w1 ⟨rfl, hw1⟩; subst hw1)))
  go_ret
  exact ⟨rfl, Below.refl _ _⟩

set_option maxHeartbeats 1000000 in
theorem may_has (hD : PForAt w F bf bn cap pn s) (i j : Nat) (C : Int) (x y : Nd) (hx : s[i]? = some x) (hy : s[j]? = some y) (ht : x.t = false) (hj : 0 < j) (hp : 0 ≤ y.p) : Calls Tryz.prog 146 #[ptr bf, .int .i64 i, .int .i64 j, .int .i64 C] w fun e w' => e = .returned (refusalV j 4) ∧ Below w.heap.size w w' := by
  have hi : i < s.length := (List.getElem?_eq_some_iff.1 hx).1
  have hjl : j < s.length := (List.getElem?_eq_some_iff.1 hy).1
  have C1 := hid (find_yes hD i (isB_of (by omega)))
  have C2 := hid (find_yes hD j (isB_of (by omega)))
  have h0 := hD.nodesCell
  obtain ⟨r, hr, ho, c0, c1, c2, c3⟩ := hD.look hx
  obtain ⟨r2, hr2, ho2, d0, d1, d2, d3⟩ := hD.look hy
  rw [ht] at c1
  have hj0 : ((j : Int) == 0) = false := by simp; omega
  have hp0 : (y.p != -1) = true := by simp; omega
  clear hD hx ho hr c0 c2 c3 hr2 ho2 d1 d2 d3 hy
  go_enter Tryz.func146, Tryz.ntmps146
  go_wp2_with (go_at_call 87; (first | (refine C1.out.mono ?_; clear C1; rintro e w1 ⟨rfl, hw1⟩; subst hw1) | (refine C2.out.mono ?_; clear C2; rintro e w1 ⟨rfl, hw1⟩; subst hw1)))
  go_ret
  exact ⟨rfl, Below.refl _ _⟩

set_option maxHeartbeats 1000000 in
theorem may_cycle (wf : WF s) {h : Nat → Nat} {B : Nat} (u : Up s h B) (hD : PForAt w F bf bn cap pn s) (i j k : Nat) (C : Int) (x y : Nd) (hI : InsOk s i j x y) (hk : h j < k) (hm : i ∈ allF s k j) : Calls Tryz.prog 146 #[ptr bf, .int .i64 i, .int .i64 j, .int .i64 C] w fun e w' => e = .returned (refusalV j 5) ∧ Below w.heap.size w w' := by
  obtain ⟨hx, hy, ht, hj, hp⟩ := hI
  have hi : i < s.length := (List.getElem?_eq_some_iff.1 hx).1
  have hjl : j < s.length := (List.getElem?_eq_some_iff.1 hy).1
  have C1 := hid (find_yes hD i (isB_of (by omega)))
  have C2 := hid (find_yes hD j (isB_of (by omega)))
  have C3 := hid (holds_any wf u hD k j i hjl hk)
  rw [decide_eq_true hm] at C3
  have h0 := hD.nodesCell
  obtain ⟨r, hr, ho, c0, c1, c2, c3⟩ := hD.look hx
  obtain ⟨r2, hr2, ho2, d0, d1, d2, d3⟩ := hD.look hy
  have hp1 : y.p = -1 := by rcases wf.par j y hy with e | ⟨q, _, e, _⟩ <;> omega
  rw [ht] at c1
  rw [hp1] at d0
  have hj0 : ((j : Int) == 0) = false := by simp; omega
  clear hD hx ho hr c0 c2 c3 hr2 ho2 d1 d2 d3 hy hm hk u wf hp1 hp
  go_enter Tryz.func146, Tryz.ntmps146
  go_wp2_with (first
    | (go_at_call 87; (first | (refine C1.out.mono ?_; clear C1; rintro e w1 ⟨rfl, hw1⟩; subst hw1) | (refine C2.out.mono ?_; clear C2; rintro e w1 ⟨rfl, hw1⟩; subst hw1)))
    | (go_at_call 173; refine C3.out.mono ?_; rintro e w1 ⟨rfl, hb⟩))
  go_ret
  exact ⟨rfl, hb⟩

set_option maxHeartbeats 1000000 in
theorem may_index (wf : WF s) {h : Nat → Nat} {B : Nat} (u : Up s h B) (hD : PForAt w F bf bn cap pn s) (i j k : Nat) (C : Int) (x y : Nd) (hI : InsOk s i j x y) (hk : h j < k) (hm : i ∉ allF s k j) (hC : C < 0 ∨ (x.ks.length : Int) < C) : Calls Tryz.prog 146 #[ptr bf, .int .i64 i, .int .i64 j, .int .i64 C] w fun e w' => e = .returned (refusalV i 3) ∧ Below w.heap.size w w' := by
  obtain ⟨hx, hy, ht, hj, hp⟩ := hI
  have hi : i < s.length := (List.getElem?_eq_some_iff.1 hx).1
  have hjl : j < s.length := (List.getElem?_eq_some_iff.1 hy).1
  have C1 := hid (find_yes hD i (isB_of (by omega)))
  have C2 := hid (find_yes hD j (isB_of (by omega)))
  have C3 := hid (holds_any wf u hD k j i hjl hk)
  rw [decide_eq_false hm] at C3
  have h0 := hD.nodesCell
  obtain ⟨r, hr, ho, c0, c1, c2, c3⟩ := hD.look hx
  obtain ⟨r2, hr2, ho2, d0, d1, d2, d3⟩ := hD.look hy
  have hp1 : y.p = -1 := by rcases wf.par j y hy with e | ⟨q, _, e, _⟩ <;> omega
  rw [ht] at c1
  rw [hp1] at d0
  have hlt := hD.lt
  obtain ⟨sa, sc, hkv⟩ : ∃ a c, r.kv = .slice a x.ks.length c := by
    rcases row_cases ho.kids with ⟨h1, h2⟩ | ⟨g, c, h1⟩
    · exact ⟨none, 0, by rw [h1, h2]⟩
    · exact ⟨_, _, h1⟩
  rw [hkv] at c2
  have hj0 : ((j : Int) == 0) = false := by simp; omega
  clear hD hx ho hr c0 c3 hr2 ho2 d1 d2 d3 hy hm hk u wf hp1 hp hkv
  by_cases hneg : C < 0
  · clear hC c2
    go_enter Tryz.func146, Tryz.ntmps146
    go_wp2_with (first
      | (go_at_call 87; (first | (refine C1.out.mono ?_; clear C1; rintro e w1 ⟨rfl, hw1⟩; subst hw1) | (refine C2.out.mono ?_; clear C2; rintro e w1 ⟨rfl, hw1⟩; subst hw1)))
      | (go_at_call 173; refine C3.out.mono ?_; rintro e w1 ⟨rfl, hb⟩))
    go_ret
    exact ⟨rfl, hb⟩
  · have hC2 : (x.ks.length : Int) < C := by omega
    have hneg2 : decide (C < 0) = false := decide_eq_false hneg
    clear hC
    go_enter Tryz.func146, Tryz.ntmps146
    go_wp2_with (first
      | (go_at_call 87; (first | (refine C1.out.mono ?_; clear C1; rintro e w1 ⟨rfl, hw1⟩; subst hw1) | (refine C2.out.mono ?_; clear C2; rintro e w1 ⟨rfl, hw1⟩; subst hw1)))
      | (go_at_call 173; refine C3.out.mono ?_; rintro e w1 ⟨rfl, hb⟩
         have e0 := (hb.cell (p := ⟨bf, 0, none⟩) hlt.1).trans h0
         have e2 := (hb.cell (p := ⟨bn, i * 4 + 2, none⟩) hlt.2).trans c2))
    go_ret
    exact ⟨rfl, hb⟩

set_option maxHeartbeats 1000000 in
theorem may_ok (wf : WF s) {h : Nat → Nat} {B : Nat} (u : Up s h B) (hD : PForAt w F bf bn cap pn s) (i j k c : Nat) (x y : Nd) (hI : InsOk s i j x y) (hk : h j < k) (hm : i ∉ allF s k j) (hC : c ≤ x.ks.length) : Calls Tryz.prog 146 #[ptr bf, .int .i64 i, .int .i64 j, .int .i64 c] w fun e w' => e = .returned .nilIface ∧ Below w.heap.size w w' := by
  obtain ⟨hx, hy, ht, hj, hp⟩ := hI
  have hi : i < s.length := (List.getElem?_eq_some_iff.1 hx).1
  have hjl : j < s.length := (List.getElem?_eq_some_iff.1 hy).1
  have C1 := hid (find_yes hD i (isB_of (by omega)))
  have C2 := hid (find_yes hD j (isB_of (by omega)))
  have C3 := hid (holds_any wf u hD k j i hjl hk)
  rw [decide_eq_false hm] at C3
  have h0 := hD.nodesCell
  obtain ⟨r, hr, ho, c0, c1, c2, c3⟩ := hD.look hx
  obtain ⟨r2, hr2, ho2, d0, d1, d2, d3⟩ := hD.look hy
  have hp1 : y.p = -1 := by rcases wf.par j y hy with e | ⟨q, _, e, _⟩ <;> omega
  rw [ht] at c1
  rw [hp1] at d0
  have hlt := hD.lt
  obtain ⟨sa, sc, hkv⟩ : ∃ a c, r.kv = .slice a x.ks.length c := by
    rcases row_cases ho.kids with ⟨h1, h2⟩ | ⟨g, c, h1⟩
    · exact ⟨none, 0, by rw [h1, h2]⟩
    · exact ⟨_, _, h1⟩
  rw [hkv] at c2
  have hj0 : ((j : Int) == 0) = false := by simp; omega
  have hneg : decide ((c : Int) < 0) = false := decide_eq_false (by omega)
  have hC2 : ¬ (x.ks.length : Int) < (c : Int) := by omega
  have hC3 : decide ((x.ks.length : Int) < (c : Int)) = false := decide_eq_false hC2
  clear hD hx ho hr c0 c3 hr2 ho2 d1 d2 d3 hy hm hk u wf hp1 hp hkv
  go_enter Tryz.func146, Tryz.ntmps146
  go_wp2_with (first
    | (go_at_call 87; (first | (refine C1.out.mono ?_; clear C1; rintro e w1 ⟨rfl, hw1⟩; subst hw1) | (refine C2.out.mono ?_; clear C2; rintro e w1 ⟨rfl, hw1⟩; subst hw1)))
    | (go_at_call 173; refine C3.out.mono ?_; rintro e w1 ⟨rfl, hb⟩
       have e0 := (hb.cell (p := ⟨bf, 0, none⟩) hlt.1).trans h0
       have e2 := (hb.cell (p := ⟨bn, i * 4 + 2, none⟩) hlt.2).trans c2))
  go_ret
  exact ⟨rfl, hb⟩
end

section
variable {w : World} {F : Nat → Prop} {bf : Nat} {s : List Nd}

set_option maxHeartbeats 400000 in
theorem tinsert_no (hD : PFor w F bf s) (A B C n y : Int) (hM : Calls Tryz.prog 146 #[ptr bf, .int .i64 A, .int .i64 B, .int .i64 C] w fun e w' => e = .returned (refusalV n y) ∧ Below w.heap.size w w') : Calls Tryz.prog 94 #[ptr bf, .int .i64 A, .int .i64 B, .int .i64 C] w (TPost F w bf s (.tuple #[.nilFunc, refusalV n y])) := by
  have HD := hid hD
  have C1 := hid hM
  clear hD hM
  go_enter Tryz.func94, Tryz.ntmps94
  go_wp2_with (go_at_call 146; refine C1.out.mono ?_; rintro e w1 ⟨rfl, hb⟩)
  go_ret2
  exact ⟨rfl, Keeps.of_below hb, (HD.out.below hb).wider (fun b h => .inl h)⟩

set_option maxHeartbeats 400000 in
theorem tinsert_done (wf : WF s) {h : Nat → Nat} {B : Nat} (u : Up s h B) (hD : PFor w F bf s) (i j k c : Nat) (x y : Nd) (hI : InsOk s i j x y) (hk : h j < k) (hm : i ∉ allF s k j) (hC : c ≤ x.ks.length) (hij : i ≠ j) (hbig : s.length < lots) (hkb : x.ks.length < lots) :
    Calls Tryz.prog 94 #[ptr bf, .int .i64 i, .int .i64 j, .int .i64 c] w (TMv (shiftF i c 1) F w bf ((s.set i { x with ks := x.ks.take c ++ j :: x.ks.drop c }).set j { y with p := i })) := by
  obtain ⟨bn, cap, pn, hD⟩ := hD
  have C1 := hid (may_ok wf u hD i j k c x y hI hk hm hC)
  have C2 := hid (fun w1 (hb : Below w.heap.size w w1) => attach_any (hD.below hb) i j c x y hI.hx hI.hy hC hij hbig hkb)
  clear hD hI hk hm hC u wf hbig hkb
  go_enter Tryz.func94, Tryz.ntmps94
  go_wp2_with (first
    | (go_at_call 146; refine C1.out.mono ?_; rintro e w1 ⟨rfl, hb⟩)
    | (go_at_call 107; refine (C2.out _ hb).mono ?_; rintro e w2 ⟨rfl, hk2, hf2⟩)
    | (go_at_call 109; refine (shift_at _ _ _ (by decide) (by decide) _).mono ?_; rintro e w3 ⟨x3, y3, z3, rfl, hb3, hS3, l1, l2, l3⟩
       have H3 := hid (And.intro hS3 (And.intro l1 (And.intro l2 l3)))
       clear hS3 l1 l2 l3))
  go_ret2
  obtain ⟨hS3, l3⟩ := H3.out
  refine ⟨_, w2.heap.size, rfl, ((Keeps.of_below hb).trans (hk2.mono (fun b _ e => .inl e))).trans (Keeps.of_below hb3), Nat.le_trans hb.size hk2.size, hb3.size, (hf2.narrow.below hb3).wider (fun b e => ?_), hS3.move l3⟩
  rcases e.1 with h | h
  · exact .inl h
  · exact .inr ⟨Nat.le_trans hb.size h, e.2⟩
end

theorem ans_insert (s : List Nd) (wf : WF s) (A B C : Int) : Ans PDoc GG ⟨s, []⟩ 54 75 [.int .i64 A, .int .i64 B, .int .i64 C] (fun v => v) (fun v => v) := by
  have hcap := wf.cap
  have no : ∀ (n y : Int), y ≠ 0 → (∀ (w : World) (F : Nat → Prop) (bf bn cap : Nat) (pn : List PN), PForAt w F bf bn cap pn s → Calls Tryz.prog 146 #[ptr bf, .int .i64 A, .int .i64 B, .int .i64 C] w fun e w' => e = .returned (refusalV n y) ∧ Below w.heap.size w w') →
      (∀ (w : World) (F : Nat → Prop) (bd bn cap : Nat) (rn : List RN) (rv : Value), RDocAt w F bd bn cap rn rv s [] → Calls Tryz.prog 75 #[ptr bd, .int .i64 A, .int .i64 B, .int .i64 C] w fun e w' => e = .returned (.agg #[.int .i64 n, .int .i64 y]) ∧ Below w.heap.size w w') →
      Ans PDoc GG ⟨s, []⟩ 54 75 [.int .i64 A, .int .i64 B, .int .i64 C] (fun v => v) (fun v => v) := by
    intro n y hy hT hR
    refine ⟨n, y, ⟨s, []⟩, ⟨wf, rfl⟩, ?_, ?_⟩
    · intro w F bx hg hP
      refine minsert_no hg hP A B C (errOf_P n y hy) (fun F' bf h => tinsert_no h A B C n y ?_)
      obtain ⟨bn, cap, pn, h⟩ := h
      exact hT w F' bf bn cap pn h
    · intro w F bd hD
      have hD' := hD
      obtain ⟨bn, cap, rn, rv, hD⟩ := hD
      exact (hR w F bd bn cap rn rv hD).mono fun e w' ⟨h1, h2⟩ => ⟨h1, Keeps.of_below h2, hD'.after h2⟩
  cases hA : isB s A with
  | false => exact no A 1 (by decide) (fun w F bf bn cap pn h => may_parent h A B C hA) (fun w F bd bn cap rn rv h => rinsert_parent h A B C hA)
  | true =>
    cases hB : isB s B with
    | false => exact no B 1 (by decide) (fun w F bf bn cap pn h => may_node h A B C hA hB) (fun w F bd bn cap rn rv h => rinsert_node h A B C hA hB)
    | true =>
      obtain ⟨a1, a2⟩ := isB_true hA
      obtain ⟨b1, b2⟩ := isB_true hB
      obtain ⟨i, rfl⟩ : ∃ i : Nat, A = (i : Int) := ⟨A.toNat, by omega⟩
      obtain ⟨j, rfl⟩ : ∃ j : Nat, B = (j : Int) := ⟨B.toNat, by omega⟩
      have hi : i < s.length := by omega
      have hj : j < s.length := by omega
      obtain ⟨x, hx⟩ : ∃ x, s[i]? = some x := ⟨_, List.getElem?_eq_getElem hi⟩
      obtain ⟨y, hy⟩ : ∃ y, s[j]? = some y := ⟨_, List.getElem?_eq_getElem hj⟩
      cases ht : x.t with
      | true => exact no i 2 (by decide) (fun w F bf bn cap pn h => may_kind h i j C x hx hj ht) (fun w F bd bn cap rn rv h => rinsert_kind h i j C x hx hj ht)
      | false =>
        by_cases hj0 : j = 0
        · subst hj0
          exact no _ 4 (by decide) (fun w F bf bn cap pn h => may_root h i C x hx ht) (fun w F bd bn cap rn rv h => rinsert_has h i 0 C x y hx hy ht (.inl rfl))
        · by_cases hp : 0 ≤ y.p
          · exact no j 4 (by decide) (fun w F bf bn cap pn h => may_has h i j C x y hx hy ht (by omega) hp) (fun w F bd bn cap rn rv h => rinsert_has h i j C x y hx hy ht (.inr hp))
          · have hI : InsOk s i j x y := ⟨hx, hy, ht, by omega, by omega⟩
            obtain ⟨ht0, Bd, u⟩ := wf.up
            by_cases hm : i ∈ allF s (ht0 j + 1) j
            · exact no j 5 (by decide) (fun w F bf bn cap pn h => may_cycle wf u h i j (ht0 j + 1) C x y hI (by omega) hm) (fun w F bd bn cap rn rv h => rinsert_cycle h u i j C x y hI (holds_yes wf hi hm))
            · have hw := holds_no wf u hi (Nat.lt_succ_self _) hm
              by_cases hC : C < 0 ∨ (x.ks.length : Int) < C
              · exact no i 3 (by decide) (fun w F bf bn cap pn h => may_index wf u h i j (ht0 j + 1) C x y hI (by omega) hm hC) (fun w F bd bn cap rn rv h => rinsert_index h u i j C x y hI hw hC)
              · obtain ⟨c, rfl⟩ : ∃ c : Nat, C = (c : Int) := ⟨C.toNat, by omega⟩
                have hc : c ≤ x.ks.length := by omega
                obtain ⟨hij, hwf⟩ := wf_insert wf hI hw hc
                have hkl : x.ks.length ≤ 40 := Nat.le_trans (nodup_length s.length _ (wf.nodup i x hx) (fun q hq => (wf.kid_lt u hx hq).1)) wf.cap
                refine ⟨0, 0, ⟨_, []⟩, ⟨hwf, rfl⟩, ?_, ?_⟩
                · intro w F bx hg hP
                  exact minsert_of hg hP i j c (fun F' bf h => (tinsert_done wf u h i j (ht0 j + 1) c x y hI (by omega) hm hc hij (by unfold lots; omega) (by unfold lots; omega)).mono fun e w2 h2 => h2.move)
                · rintro w F bd ⟨bn, cap, rn, rv, hD⟩
                  exact (rinsert_done hD u i j c x y hI hw hc (by unfold lots; omega) hij).mono fun e w' h => h

end Go.Proofs.YtabogkonklplcaaGreatDoor

/- The document's answers at Remove. -/
namespace Go.Proofs.YtabogkonklplcaaGreatDoor
open Go.RowKit
set_option linter.unusedSimpArgs false
set_option linter.unusedVariables false

theorem ans_remove (s : List Nd) (wf : WF s) (A : Int) : Ans PDoc GG ⟨s, []⟩ 60 76 [.int .i64 A] (fun v => v) (fun v => v) := by
  have hcap := wf.cap
  cases hA : isB s A with
  | false =>
    refine ⟨A, 1, ⟨s, []⟩, ⟨wf, rfl⟩, ?_, ?_⟩
    · intro w F bx hg hP
      exact mremove_no hg hP A (errOf_P A 1 (by decide)) (fun F' bf h => tremove_node h A hA)
    · intro w F bd hR
      have hR' := hR
      obtain ⟨bn, cap, rn, rv, hD⟩ := hR
      exact (rremove_node hD A hA).mono fun e w' ⟨h1, h2⟩ => ⟨h1, Keeps.of_below h2, hR'.after h2⟩
  | true =>
    obtain ⟨h1, h2⟩ := isB_true hA
    obtain ⟨i, rfl⟩ : ∃ i : Nat, A = (i : Int) := ⟨A.toNat, by omega⟩
    have hi : i < s.length := by omega
    obtain ⟨x, hx⟩ : ∃ x, s[i]? = some x := ⟨_, List.getElem?_eq_getElem hi⟩
    by_cases hp : 0 ≤ x.p
    · obtain ⟨j, m, y, hj, hy, hm, hno, hyl⟩ := wf.place hx hp
      obtain ⟨hij, hwf⟩ := wf_remove wf hx hj hy hm
      obtain ⟨hh2, HH2, u2⟩ := hwf.up
      refine ⟨0, 0, ⟨_, []⟩, ⟨hwf, rfl⟩, ?_, ?_⟩
      · intro w F bx hg hP
        exact mremove_of hg hP i (fun F' bf h => (tremove_done h i j m x y hx hj hy hm hno hij (by unfold lots; omega) (by unfold lots; omega) hwf u2).mono fun e w2 h2 => h2.move)
      · rintro w F bd ⟨bn, cap, rn, rv, hD⟩
        exact (rremove_done hD i j m x y hx hj hy hm hno (by unfold lots; omega) hij).mono fun e w' h => h
    · have hp1 : x.p = -1 := by
        rcases wf.par i x hx with h | ⟨j, y, h, _⟩
        · exact h
        · omega
      refine ⟨i, 4, ⟨s, []⟩, ⟨wf, rfl⟩, ?_, ?_⟩
      · intro w F bx hg hP
        exact mremove_no hg hP i (errOf_P i 4 (by decide)) (fun F' bf h => tremove_none h i x hx hp1 (by unfold lots; omega))
      · intro w F bd hR
        have hR' := hR
        obtain ⟨bn, cap, rn, rv, hD⟩ := hR
        exact (rremove_none hD i x hx (by omega)).mono fun e w' ⟨h1, h2⟩ => ⟨h1, Keeps.of_below h2, hR'.after h2⟩

end Go.Proofs.YtabogkonklplcaaGreatDoor

/- tree.writeQuoted. -/
namespace Go.Proofs.YtabogkonklplcaaGreatDoor
open Go.RowKit
set_option linter.unusedSimpArgs false
set_option linter.unusedVariables false

theorem strCells_append (a b : ByteArray) : Lib.strCells (a ++ b) = Lib.strCells a ++ Lib.strCells b := by
  simp [Lib.strCells, ByteArray.data_append]
theorem strCells_one (b : UInt8) : Lib.strCells ⟨#[b]⟩ = [.int .u8 b.toNat] := rfl

theorem enc_39 {r : Int} (h : Lib.runeCells r = [.int .u8 39]) : r = 39 := by
  unfold Lib.runeCells Lib.encodeRuneZ at h
  split at h
  · simpa using h
  · (repeat' split at h) <;> simp at h
theorem enc_92 {r : Int} (h : Lib.runeCells r = [.int .u8 92]) : r = 92 := by
  unfold Lib.runeCells Lib.encodeRuneZ at h
  split at h
  · simpa using h
  · (repeat' split at h) <;> simp at h
theorem strCells_39 {c : ByteArray} (h : Lib.strCells c = [.int .u8 39]) : c.data.toList = [39] := by
  unfold Lib.strCells at h
  rw [List.map_eq_singleton_iff] at h
  obtain ⟨a, h1, h2⟩ := h
  rw [h1]
  simp at h2
  have : a.toNat = 39 := by omega
  rw [show a = 39 from UInt8.toNat_inj.1 this]
theorem strCells_92 {c : ByteArray} (h : Lib.strCells c = [.int .u8 92]) : c.data.toList = [92] := by
  unfold Lib.strCells at h
  rw [List.map_eq_singleton_iff] at h
  obtain ⟨a, h1, h2⟩ := h
  rw [h1]
  simp at h2
  have : a.toNat = 92 := by omega
  rw [show a = 92 from UInt8.toNat_inj.1 this]

theorem rune_q {c : ByteArray} {R : Nat} (h : Lib.runeCells (R : Int) = Lib.strCells c) : isQ c = (decide (R = 39) || decide (R = 92)) := by
  unfold isQ
  rw [Lib.toList_data]
  by_cases h1 : R = 39
  · subst h1
    have e : Lib.runeCells ((39 : Nat) : Int) = [.int .u8 39] := by unfold Lib.runeCells; rw [Lib.encodeRuneZ_one (by decide) (by decide)]; rfl
    rw [e] at h
    rw [strCells_39 h.symm]
    decide
  · by_cases h2 : R = 92
    · subst h2
      have e : Lib.runeCells ((92 : Nat) : Int) = [.int .u8 92] := by unfold Lib.runeCells; rw [Lib.encodeRuneZ_one (by decide) (by decide)]; rfl
      rw [e] at h
      rw [strCells_92 h.symm]
      decide
    · have n1 : (c.data.toList == [39]) = false := by
        rw [beq_eq_false_iff_ne]
        intro e
        have : Lib.strCells c = [.int .u8 39] := by unfold Lib.strCells; rw [e]; rfl
        rw [this] at h
        have := enc_39 h
        omega
      have n2 : (c.data.toList == [92]) = false := by
        rw [beq_eq_false_iff_ne]
        intro e
        have : Lib.strCells c = [.int .u8 92] := by unfold Lib.strCells; rw [e]; rfl
        rw [this] at h
        have := enc_92 h
        omega
      rw [n1, n2]
      simp [h1, h2]

end Go.Proofs.YtabogkonklplcaaGreatDoor

/- Builder.String: that nothing but the builder's own row is touched. -/
namespace Go.Proofs.YtabogkonklplcaaGreatDoor
open Go.RowKit
set_option linter.unusedSimpArgs false
set_option linter.unusedVariables false

theorem keeps_freeze {F : Nat → Prop} {a w : World} (h : Keeps F a w) {p : Addr} (hp : F p.block) (n : Nat) : Keeps F a (w.freeze p n) := by
  refine h.trans (Keeps.mono (F := F) ?_ (fun k _ e => .inl e))
  unfold World.freeze
  split
  · exact Keeps.refl _ _
  · exact ⟨rfl, rfl, rfl, by simp, fun k hk hF => by
      simp only [Array.getElem?_modify]
      rw [if_neg (fun e => hF (by rw [← e]; exact hp))]⟩

theorem Tryz.cellsByte : Tryz.prog.cellsOf 5 = 1 := by kernel_rfl

set_option maxHeartbeats 2000000 in
set_option maxRecDepth 100000 in
theorem bstringV {b : Nat} {v : Value} (l : List UInt8) {w : World} (h : BldV b v (Lib.byteCells l) w) :
    Calls Tryz.prog 148 #[ptr b] w fun e w' => e = .returned (.string ⟨l.toArray⟩) ∧ Keeps (fun k => v.ownBlock = some k) w w' := by
  obtain ⟨h1, hown, hne⟩ := h
  obtain ⟨p, hbk⟩ : ∃ p, w.heap[b]? = some (.cells #[p, v] 219 (0, 0)) := h1.elim (fun h => ⟨_, h⟩) (fun h => ⟨_, h⟩)
  clear h1
  have hlt := heap_lt hbk
  rw [Lib.byteCells_length] at hown
  by_cases h0 : l = []
  · subst h0
    have hUS := fun (W : World) (q : Option Addr) => Lib.run_unsafeString_none (P := Tryz.prog) W 252 3 9 q
    rcases hown.2 with ⟨rfl, _⟩ | ⟨g, cap, cur, rfl, hbg, hg, _, _, _, _⟩
    · have c1 : w.drew.cell? ⟨b, 1, none⟩ = some (.slice none 0 0) := cell_of_heap (w := w.drew) hbk 1
      have hSD : (Builtin.unsafeSliceData_ #[217] 252 #[.slice none 0 0]).run Tryz.prog w.drew = .ok (.pointer none) w.drew := rfl
      clear hown hbk
      go_enter Tryz.func148, Tryz.ntmps148
      go_wp2
      go_region
      all_goals (go_wp2; go_ret; exact ⟨rfl, (Keeps.refl _ w).drew⟩)
    · by_cases hc0 : cap = 0
      · subst hc0
        have c0 : w.cell? ⟨b, 1, none⟩ = some (.slice (some ⟨g, 0, none⟩) 0 0) := cell_of_heap hbk 1
        have c1 : w.drew.cell? ⟨b, 1, none⟩ = some (.slice (some ⟨g, 0, none⟩) 0 0) := c0
        have hSD : (Builtin.unsafeSliceData_ #[217] 252 #[.slice (some ⟨g, 0, none⟩) 0 0]).run Tryz.prog w.drew = .ok (.pointer (some ⟨w.drew.heap.size, 0, none⟩)) (w.drew.alloc (.view ⟨g, 0, none⟩ 5)) :=
          Lib.run_unsafeSliceData_zero w.drew _ _ 5 Tryz.underlying252 ⟨g, 0, none⟩ 0 (5, cur.size) (by have hg' : w.drew.heap[g]? = some (.cells cur 5 (0, 0)) := hg; simp [World.shape?, hg'])
        have c2 : (w.drew.alloc (.view ⟨g, 0, none⟩ 5)).cell? ⟨b, 1, none⟩ = some (.slice (some ⟨g, 0, none⟩) 0 0) := by
          have : (w.drew.alloc (.view ⟨g, 0, none⟩ 5)).heap[b]? = _ := (Below.heap_alloc w.drew _ b hlt).trans hbk
          exact cell_of_heap this 1
        have c3 : (w.alloc (.view ⟨g, 0, none⟩ 5)).drew.cell? ⟨b, 1, none⟩ = some (.slice (some ⟨g, 0, none⟩) 0 0) := c2
        clear hown hbk hg
        go_enter Tryz.func148, Tryz.ntmps148
        go_wp2
        go_region
        all_goals (go_wp2; go_ret; exact ⟨rfl, ((Keeps.refl _ w).drew).alloc _⟩)
      · have c1 : w.drew.cell? ⟨b, 1, none⟩ = some (.slice (some ⟨g, 0, none⟩) 0 cap) := cell_of_heap (w := w.drew) hbk 1
        have hSD : (Builtin.unsafeSliceData_ #[217] 252 #[.slice (some ⟨g, 0, none⟩) 0 cap]).run Tryz.prog w.drew = .ok (.pointer (some ⟨g, 0, none⟩)) w.drew := Lib.run_unsafeSliceData_row _ _ _ _ _ _ hc0
        clear hown hbk hg hc0
        go_enter Tryz.func148, Tryz.ntmps148
        go_wp2
        go_region
        all_goals (go_wp2; go_ret; exact ⟨rfl, (Keeps.refl _ w).drew⟩)
  · have hl0 : l.length ≠ 0 := by simpa using h0
    obtain ⟨g, cap, cur, rfl, hbg, hg, hnc, hcm, hcs, htake⟩ : ∃ g cap cur, v = .slice (some ⟨g, 0, none⟩) l.length cap ∧ 0 ≤ g ∧ w.heap[g]? = some (.cells cur 5 (0, 0)) ∧ l.length ≤ cap ∧ cap ≤ maxLen ∧ cur.size = cap * 1 ∧ cur.toList.take (l.length * 1) = Lib.byteCells l := by
      rcases hown.2 with ⟨_, hz⟩ | ⟨g, cap, cur, hv, r⟩
      · exact absurd hz hl0
      · exact ⟨g, cap, cur, hv, r⟩
    have c1 : w.drew.cell? ⟨b, 1, none⟩ = some (.slice (some ⟨g, 0, none⟩) l.length cap) := cell_of_heap (w := w.drew) hbk 1
    have hSD : (Builtin.unsafeSliceData_ #[217] 252 #[.slice (some ⟨g, 0, none⟩) l.length cap]).run Tryz.prog w.drew = .ok (.pointer (some ⟨g, 0, none⟩)) w.drew := Lib.run_unsafeSliceData_row _ _ _ _ _ _ (by omega)
    have hUS : (Builtin.unsafeString_ #[252, 3] 9 #[.pointer (some ⟨g, 0, none⟩), .int .i64 l.length]).run Tryz.prog w.drew = .ok (.string ⟨l.toArray⟩) (w.drew.freeze ⟨g, 0, none⟩ l.length) := by
      refine Lib.run_unsafeString_row w.drew 252 3 9 5 Tryz.underlying252 Tryz.cellsByte g cur.size (by have hg' : w.drew.heap[g]? = some (.cells cur 5 (0, 0)) := hg; simp [World.shape?, hg']) l h0 (by omega) (by unfold maxLen at hcm; omega) ?_
      intro j x hx
      have := hown.cells (g := g) rfl j (.int .u8 x.toNat) (by simp [Lib.byteCells, hx])
      exact this
    have HK := hid (keeps_freeze (F := fun k => (Value.slice (some ⟨g, 0, none⟩) l.length cap).ownBlock = some k) ((Keeps.refl _ w).drew) (p := ⟨g, 0, none⟩) rfl l.length)
    clear hown hbk hg hnc hcm hcs htake
    go_enter Tryz.func148, Tryz.ntmps148
    go_wp2
    go_region
    all_goals (go_wp2; go_ret; exact ⟨rfl, HK.out⟩)

end Go.Proofs.YtabogkonklplcaaGreatDoor
