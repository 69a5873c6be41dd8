import Derived.Test.YtabogkonklplcaaGreatDoorV21
import Derived.Deep.RegionLaw
import Derived.Deep.RegionWith
import Derived.Deep.Cut
import Derived.Deep.CutRange
import Derived.Test.YtabogkonklplcaaGreatDoorV19
import Derived.Test.YtabogkonklplcaaGreatDoorV09

namespace Go.Proofs.YtabogkonklplcaaGreatDoor
open Go.RowKit
set_option linter.unusedSimpArgs false
set_option linter.unusedVariables false
def leftN (n : Nat) (t : Value) : Nat := n - (intOf t).toNat
section
variable {w : World} {F : Nat → Prop} {bd bn cap : Nat} {rn : List RN} {rv : Value} {s : List Nd} {rs : List Sp}
theorem RDocAt.spanAt (hD : RDocAt w F bd bn cap rn rv s rs) {r g c n : Nat} {x : Sp} (hx : rs[r]? = some x) (hv : rv = .slice (some ⟨g, 0, none⟩) n c) : w.cell? ⟨g, r * 4, none⟩ = some (.int .i64 x.a) ∧ w.cell? ⟨g, r * 4 + 1, none⟩ = some (.int .i64 x.b) ∧ w.cell? ⟨g, r * 4 + 2, none⟩ = some (.int .i64 x.c) ∧ w.cell? ⟨g, r * 4 + 3, none⟩ = some (.int .i64 x.d) ∧
    (∀ o, w.frozen? ⟨g, o, none⟩ = false) := by
  obtain ⟨g', c', hv', _, _, _, _, h⟩ := hD.spanCells hx
  rw [hv] at hv'
  cases hv'
  exact h
end
def Small (rs : List Sp) : Prop := ∀ x ∈ rs, 0 ≤ x.b ∧ x.b ≤ 100 ∧ 0 ≤ x.d ∧ x.d ≤ 100
theorem Small.of {s : List Nd} (wf : WF s) {rs : List Sp} (h : ∀ x ∈ rs, SpOk s x) : Small rs := fun x hx => by
  have h1 := (h x hx).1.small wf
  have h2 := (h x hx).2.small wf
  omega
end Go.Proofs.YtabogkonklplcaaGreatDoor

namespace Go.Proofs.YtabogkonklplcaaGreatDoor
open Go.RowKit Go.Lib
set_option linter.unusedSimpArgs false
set_option linter.unusedVariables false
def TSv (f : Mvf) (F : Nat → Prop) (w : World) (bf : Nat) (s' : List Nd) (n : Int) (e : Ending) (w' : World) : Prop := ∃ mv m, e = .returned (.tuple #[.int .i64 n, mv, .nilIface]) ∧ Keeps F w w' ∧ w.heap.size ≤ m ∧ m ≤ w'.heap.size ∧ PFor w' (fun b => F b ∨ (w.heap.size ≤ b ∧ b < m)) bf s' ∧ MoveOk m w' mv f
section
variable {w : World} {F : Nat → Prop} {bf : Nat} {s : List Nd}
set_option maxHeartbeats 400000 in
theorem tsplit_unfit (hD : PFor w F bf s) (n o : Int) (u : Value) (hT : Calls Tryz.prog 101 #[ptr bf, .int .i64 n] w fun e w' => e = .returned (.iface 145 u) ∧ w' = w) :
    Calls Tryz.prog 63 #[ptr bf, .int .i64 n, .int .i64 o] w (TPost F w bf s (.tuple #[.int .i64 0, .nilFunc, .iface 145 u])) := by
  have HD := hid hD
  have C := hid hT
  clear hD hT
  go_enter Tryz.func63, Tryz.ntmps63
  go_wp2_with (go_at_call 101; refine C.out.mono ?_; rintro e w1 ⟨rfl, rfl⟩)
  refine bodyPost_ret (v := .tuple #[.int .i64 0, .nilFunc, .iface 145 u]) (by simp [results, Tryz.results63, go_sem]) rfl ?_
  exact ⟨rfl, Keeps.refl _ _, HD.out.wider (fun b h => .inl h)⟩
set_option maxHeartbeats 1000000 in
theorem tsplit_out (hD : PFor w F bf s) (n : Nat) (o : Int) (x : Nd) (hx : s[n]? = some x) (ht : x.t = true) (hch : ∀ d ∈ x.cs, IsCh d) (hl : x.cs.length < lots) (ho : o < 0 ∨ (x.cs.length : Int) < o) :
    Calls Tryz.prog 63 #[ptr bf, .int .i64 n, .int .i64 o] w (TPost F w bf s (.tuple #[.int .i64 0, .nilFunc, .iface 145 (.agg #[.int .i64 n, outV o])])) := by
  have HD := hid hD
  obtain ⟨bn, cap, pn, hD⟩ := hD
  have hi : n < s.length := (List.getElem?_eq_some_iff.1 hx).1
  have C := hid (findText_ok hD n x hx ht)
  have C2 := hid (fun w1 => find_out x.cs hch hl o ho w1)
  have h0 := hD.nodesCell
  obtain ⟨r, hr, ho', c0, c1, c2, c3⟩ := hD.look hx
  clear hD c0 c1 c2 hr ho' hx hch
  go_enter Tryz.func63, Tryz.ntmps63
  go_wp2_with first
    | (go_at_call 101; refine C.out.mono ?_; rintro e w1 ⟨rfl, hw1⟩; replace hw1 := hw1.symm; subst hw1)
    | (go_at_call 102; refine (C2.out _).mono ?_; rintro e w2 ⟨rfl, hb2⟩)
  refine bodyPost_ret (v := .tuple #[.int .i64 0, .nilFunc, .iface 145 (.agg #[.int .i64 n, outV o])]) (by simp [results, Tryz.results63, go_sem]) rfl ?_
  exact ⟨rfl, Keeps.of_below hb2, (HD.out.below hb2).wider (fun b h => .inl h)⟩
set_option maxHeartbeats 1000000 in
theorem tsplit_full (hD : PFor w F bf s) (n k : Nat) (x : Nd) (hx : s[n]? = some x) (ht : x.t = true) (hch : ∀ d ∈ x.cs, IsCh d) (hl : x.cs.length ≤ 30) (ho : k ≤ x.cs.length) (h40 : 40 ≤ s.length) :
    Calls Tryz.prog 63 #[ptr bf, .int .i64 n, .int .i64 (k : Int)] w (TPost F w bf s (.tuple #[.int .i64 0, .nilFunc, refusalV n 7])) := by
  have HD := hid hD
  obtain ⟨bn, cap, pn, hD⟩ := hD
  have hi : n < s.length := (List.getElem?_eq_some_iff.1 hx).1
  have C := hid (findText_ok hD n x hx ht)
  have C2 := hid (fun w1 => find_at x.cs hch (by unfold lots; omega) k ho w1)
  have h0 := hD.nodesCell
  obtain ⟨r, hr, ho', c0, c1, c2, c3⟩ := hD.look hx
  have s1 := (cat_split x.cs k).2
  have z1 := cat_le x.cs k
  have z2 := cat_size x.cs hch
  have H4 := hid h40
  obtain ⟨p, hp⟩ : ∃ p, (catB (x.cs.take k)).size = p := ⟨_, rfl⟩
  rw [hp] at C2 s1 z1
  obtain ⟨S, hS⟩ : ∃ S, catB x.cs = S := ⟨_, rfl⟩
  rw [hS] at C2 s1 z1 c3 z2
  have pI : (p : Int) ≤ S.size := by omega
  clear hD c0 c1 c2 hr ho' hx hch hp hS h40
  go_enter Tryz.func63, Tryz.ntmps63
  go_wp2_with first
    | (go_at_call 101; refine C.out.mono ?_; rintro e w1 ⟨rfl, hw1⟩; replace hw1 := hw1.symm; subst hw1)
    | (go_at_call 102; refine (C2.out _).mono ?_; rintro e w2 ⟨rfl, hb2⟩)
    | (go_at_call 103; refine (addText_full (HD.out.below hb2) H4.out _ _).mono ?_; rintro e w3 ⟨rfl, hb3⟩)
  refine bodyPost_ret (v := .tuple #[.int .i64 0, .nilFunc, refusalV n 7]) (by simp [results, Tryz.results63, go_sem]) rfl ?_
  have hb := hb2.trans (hb3.mono hb2.size)
  exact ⟨rfl, Keeps.of_below hb, (HD.out.below hb).wider (fun b h => .inl h)⟩
set_option maxRecDepth 20000 in
set_option maxHeartbeats 1000000 in
theorem tsplit_top (hD : PFor w F bf s) (n k : Nat) (x : Nd) (hx : s[n]? = some x) (ht : x.t = true) (hch : ∀ d ∈ x.cs, IsCh d) (hl : x.cs.length ≤ 30) (ho : k ≤ x.cs.length) (h40 : s.length < 40) (hp1 : x.p = -1) :
    Calls Tryz.prog 63 #[ptr bf, .int .i64 n, .int .i64 (k : Int)] w (TSv (resizeF n k ((x.cs.length - k : Nat) : Int) 0) F w bf ((s ++ [(⟨true, x.cs.drop k, [], -1⟩ : Nd)]).set n { x with cs := x.cs.take k }) s.length) := by
  have HD := hid hD
  obtain ⟨bn, cap, pn, hD⟩ := hD
  have hi : n < s.length := (List.getElem?_eq_some_iff.1 hx).1
  have C := hid (findText_ok hD n x hx ht)
  have C2 := hid (fun w1 => find_at x.cs hch (by unfold lots; omega) k ho w1)
  have CC := hid (fun w1 => count_any (x.cs.drop k) (fun d hd => hch d (List.mem_of_mem_drop hd)) (by simp; unfold lots; omega) w1)
  rw [List.length_drop] at CC
  have h0 := hD.nodesCell
  obtain ⟨r, hr, ho', c0, c1, c2, c3⟩ := hD.look hx
  have s1 := (cat_split x.cs k).2
  have s2 := (cat_split x.cs k).1
  have z1 := cat_le x.cs k
  have z2 := cat_size x.cs hch
  have H4 := hid h40
  have HX := hid hx
  have HP := hid hp1
  obtain ⟨p, hp⟩ : ∃ p, (catB (x.cs.take k)).size = p := ⟨_, rfl⟩
  rw [hp] at C2 s1 s2 z1
  obtain ⟨S, hS⟩ : ∃ S, catB x.cs = S := ⟨_, rfl⟩
  rw [hS] at C2 s1 s2 z1 c3 z2
  have pI : (p : Int) ≤ S.size := by omega
  clear hD c0 c1 c2 hr ho' hx hch hp hS h40 hp1
  go_enter Tryz.func63, Tryz.ntmps63
  go_wp2_with first
    | (go_at_call 101; refine C.out.mono ?_; rintro e w1 ⟨rfl, hw1⟩; replace hw1 := hw1.symm; subst hw1)
    | (go_at_call 102; refine (C2.out _).mono ?_; rintro e w2 ⟨rfl, hb2⟩)
    | (go_at_call 103; refine (addText_some (HD.out.below hb2) H4.out (x.cs.drop k) n).mono ?_; rintro e w3 ⟨rfl, hk3, bn3, cap3, pn3, hf3⟩
       have hx3 : (s ++ [(⟨true, x.cs.drop k, [], -1⟩ : Nd)])[n]? = some x := by rw [List.getElem?_append_left hi]; exact HX.out
       have g0 := hf3.nodesCell
       rw [List.length_append] at g0
       simp only [List.length_cons, List.length_nil, Nat.zero_add] at g0
       obtain ⟨r3, hr3, ho3, e0, e1, e2, e3⟩ := hf3.look hx3
       rw [HP.out] at e0
       obtain ⟨gv, g4, gf⟩ := hf3.cellsThere (i := n) (k := 3) (by rw [List.length_append]; omega) (by omega)
       obtain ⟨pn4, h4⟩ := hf3.newChars (cs' := x.cs.take k) hx3
       have H5 := hid (And.intro hk3 (And.intro h4 hf3.Fn))
       have hlt3 := hf3.lt
       have hne3 : ¬ bf = bn3 := hf3.ne
       clear hr3 ho3 e1 e2 hk3 h4 hf3 hx3)
  go_region
  go_wp2_with first
    | (go_at_call 105; refine (CC.out _).mono ?_; rintro e w5 ⟨rfl, hb5⟩)
    | (go_at_call 104; refine (resize_at _ _ _ _ _ (by omega) (by omega) (by omega) (by omega) (by omega) (by omega)).mono ?_; rintro e w6 ⟨bs, rfl, hb6, hM6⟩
       have H6 := hid hM6
       clear hM6)
  refine bodyPost_ret (v := .tuple #[.int .i64 s.length, .func (.func 154) #[] bs, .nilIface]) (by simp [results, Tryz.results63, go_sem]) rfl ?_
  obtain ⟨hk3, h4, hfn⟩ := H5.out
  have hb := hb5.trans (hb6.mono hb5.size)
  have hz2 := hb2.size
  have hk : Keeps F w w3 := (Keeps.of_below hb2).trans (hk3.mono (fun b _ e => .inl e))
  have hz5 : w3.heap.size ≤ w5.heap.size := by
    have := hb5.size
    simp only [World.size_drew, World.size_setCell] at this
    exact this
  have hz3 := hk3.size
  refine ⟨_, w5.heap.size, rfl, (hk.setCell (p := ⟨bn3, n * 4 + 3, none⟩) ?_ _).drew.trans (Keeps.of_below hb), by omega, hb6.size, ⟨bn3, cap3, pn4, (h4.drew.narrow.below hb).wider (fun b h => ?_)⟩, H6.out⟩
  · rcases hfn with e | e
    · exact .inl e
    · exact .inr (by show w.heap.size ≤ bn3; omega)
  · have h2 : b < w3.heap.size := by
      have := h.2
      simp only [World.size_drew, World.size_setCell] at this
      exact this
    rcases h.1 with e | e
    · exact .inl e
    · exact .inr ⟨by omega, by omega⟩
end
end Go.Proofs.YtabogkonklplcaaGreatDoor

namespace Go.Proofs.YtabogkonklplcaaGreatDoor
open Go.RowKit
set_option linter.unusedSimpArgs false
set_option linter.unusedVariables false
section
variable {w : World} {F : Nat → Prop} {bd bn cap : Nat} {rn : List RN} {rv : Value} {s : List Nd} {rs : List Sp}
end
end Go.Proofs.YtabogkonklplcaaGreatDoor

namespace Go.Proofs.YtabogkonklplcaaGreatDoor
open Go.RowKit
set_option linter.unusedSimpArgs false
set_option linter.unusedVariables false
end Go.Proofs.YtabogkonklplcaaGreatDoor
