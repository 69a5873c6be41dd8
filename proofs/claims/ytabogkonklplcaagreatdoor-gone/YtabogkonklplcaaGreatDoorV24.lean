import Derived.Test.YtabogkonklplcaaGreatDoorV22
import Derived.Test.YtabogkonklplcaaGreatDoorV06
import Derived.Deep.Cut
import Derived.Deep.CutRange

namespace Go.Proofs.YtabogkonklplcaaGreatDoor
open Go.RowKit Go.Lib
set_option linter.unusedSimpArgs false
set_option linter.unusedVariables false
section
variable {w : World} {F : Nat → Prop} {bf : Nat} {s : List Nd}
set_option maxRecDepth 20000 in
set_option maxHeartbeats 1000000 in
theorem tsplit_in (hD : PFor w F bf s) (n k : Nat) (x : Nd) (hx : s[n]? = some x) (ht : x.t = true) (hch : ∀ d ∈ x.cs, IsCh d) (hl : x.cs.length ≤ 30) (ho : k ≤ x.cs.length) (h40 : s.length < 40) (j m : Nat) (y : Nd) (hp1 : x.p = j) (hy : s[j]? = some y) (hm : y.ks[m]? = some n) (hno : n ∉ y.ks.take m) (hkb : y.ks.length < lots) (hnj : n ≠ j) :
    Calls Tryz.prog 63 #[ptr bf, .int .i64 n, .int .i64 (k : Int)] w (TSv (carryF n k s.length (shiftF j m 1)) F w bf ((((s ++ [(⟨true, x.cs.drop k, [], -1⟩ : Nd)]).set n { x with cs := x.cs.take k }).set j { y with ks := y.ks.take (m + 1) ++ s.length :: y.ks.drop (m + 1) }).set s.length { (⟨true, x.cs.drop k, [], -1⟩ : Nd) with p := j }) s.length) := by
  obtain ⟨sF, hsF⟩ : ∃ sF, ((((s ++ [(⟨true, x.cs.drop k, [], -1⟩ : Nd)]).set n { x with cs := x.cs.take k }).set j { y with ks := y.ks.take (m + 1) ++ s.length :: y.ks.drop (m + 1) }).set s.length { (⟨true, x.cs.drop k, [], -1⟩ : Nd) with p := j }) = sF := ⟨_, rfl⟩
  rw [hsF]
  have HS := hid hsF
  clear hsF
  have HD := hid hD
  obtain ⟨bn, cap, pn, hD⟩ := hD
  have hi : n < s.length := (List.getElem?_eq_some_iff.1 hx).1
  have C := hid (findText_ok hD n x hx ht)
  have C2 := hid (fun w1 => find_at x.cs hch (by unfold lots; omega) k ho w1)
  have CC := hid (fun w1 => count_any (x.cs.drop k) (fun d hd => hch d (List.mem_of_mem_drop hd)) (by simp; unfold lots; omega) w1)
  have h0 := hD.nodesCell
  obtain ⟨r, hr, ho', c0, c1, c2, c3⟩ := hD.look hx
  have s1 := (cat_split x.cs k).2
  have s2 := (cat_split x.cs k).1
  have z1 := cat_le x.cs k
  have z2 := cat_size x.cs hch
  have H4 := hid h40
  have HX := hid hx
  have HP := hid hp1
  have hjl : j < s.length := (List.getElem?_eq_some_iff.1 hy).1
  have hml : m < y.ks.length := (List.getElem?_eq_some_iff.1 hm).1
  have hkb' := hkb
  unfold lots at hkb'
  have HY := hid (And.intro hy (And.intro hm (And.intro hno hkb)))
  have hneg : ((j : Int) == -1) = false := by simp
  have hm64 : (m : Int) + 1 ≤ 9223372036854775807 := by omega
  obtain ⟨p, hp⟩ : ∃ p, (catB (x.cs.take k)).size = p := ⟨_, rfl⟩
  rw [hp] at C2 s1 s2 z1
  obtain ⟨S, hS⟩ : ∃ S, catB x.cs = S := ⟨_, rfl⟩
  rw [hS] at C2 s1 s2 z1 c3 z2
  have pI : (p : Int) ≤ S.size := by omega
  clear hD c0 c1 c2 hr ho' hx hch hp hS h40 hp1 hy hm hno hkb
  go_enter Tryz.func63, Tryz.ntmps63
  go_wp2_with first
    | (go_at_call 101; refine C.out.mono ?_; rintro e w1 ⟨rfl, hw1⟩; replace hw1 := hw1.symm; subst hw1)
    | (go_at_call 102; refine (C2.out _).mono ?_; rintro e w2 ⟨rfl, hb2⟩)
    | (go_at_call 103; refine (addText_some (HD.out.below hb2) H4.out (x.cs.drop k) n).mono ?_; rintro e w3 ⟨rfl, hk3, bn3, cap3, pn3, hf3⟩
       have hx3 : (s ++ [(⟨true, x.cs.drop k, [], -1⟩ : Nd)])[n]? = some x := by rw [List.getElem?_append_left hi]; exact HX.out
       have g0 := hf3.nodesCell
       rw [List.length_append] at g0
       simp only [List.length_cons, List.length_nil, Nat.zero_add] at g0
       obtain ⟨r3, hr3, ho3, e0, e1, e2, e3⟩ := hf3.look hx3
       rw [HP.out] at e0
       obtain ⟨gv, g4, gf⟩ := hf3.cellsThere (i := n) (k := 3) (by rw [List.length_append]; omega) (by omega)
       obtain ⟨pn4, h4⟩ := hf3.newChars (cs' := x.cs.take k) hx3
       have hx4 : ((s ++ [(⟨true, x.cs.drop k, [], -1⟩ : Nd)]).set n { x with cs := x.cs.take k })[n]? = some { x with cs := x.cs.take k } := by rw [List.getElem?_set_self (by rw [List.length_append]; omega)]
       have hy4 : ((s ++ [(⟨true, x.cs.drop k, [], -1⟩ : Nd)]).set n { x with cs := x.cs.take k })[j]? = some y := by rw [List.getElem?_set_ne hnj, List.getElem?_append_left hjl]; exact HY.out.1
       have hz4 : ((s ++ [(⟨true, x.cs.drop k, [], -1⟩ : Nd)]).set n { x with cs := x.cs.take k })[s.length]? = some (⟨true, x.cs.drop k, [], -1⟩ : Nd) := by rw [List.getElem?_set_ne (by omega), List.getElem?_append_right (Nat.le_refl _)]; simp
       have HC := hid (And.intro hx4 (And.intro hy4 hz4))
       have H5 := hid (And.intro hk3 (And.intro h4 hf3.Fn))
       clear hx4 hy4 hz4
       have hlt3 := hf3.lt
       have hne3 : ¬ bf = bn3 := hf3.ne
       clear hr3 ho3 e1 e2 hk3 h4 hf3 hx3)
  go_region
  have C5 := hid (tindex_at H5.out.2.1.drew n j m _ y HC.out.1 HP.out HC.out.2.1 HY.out.2.1 HY.out.2.2.1 (by rw [List.length_set, List.length_append]; simp; unfold lots; have := H4.out; omega) HY.out.2.2.2)
  have C6 := hid (fun q => attach_any (H5.out.2.1.drewN q) j s.length (m + 1) y _ HC.out.2.1 HC.out.2.2 (by omega) (by omega) (by rw [List.length_set, List.length_append]; simp; unfold lots; have := H4.out; omega) HY.out.2.2.2)
  rw [show (((m + 1 : Nat)) : Int) = (m : Int) + 1 from by omega] at C6
  go_wp2_with first
    | (go_at_call 106; refine C5.out.mono ?_; rintro e w5 ⟨rfl, q, rfl⟩)
    | (go_at_call 107; refine (C6.out (1 + q)).mono ?_; rintro e w6 ⟨rfl, hk6, hf6⟩)
    | (go_at_call 109; refine (shift_at _ _ _ (by decide) (by decide) _).mono ?_; rintro e w7 ⟨x7, y7, z7, rfl, hb7, hS7, l71, l72, l73⟩
       have H7 := hid (And.intro hS7 (And.intro l71 (And.intro l72 l73)))
       clear hS7 l71 l72 l73)
    | (go_at_call 108; refine (carry_at _ _ _ _ _ _ _ _ _ w6.heap.size _ H7.out.1 H7.out.2 hb7.size (by omega) (by omega)).mono ?_; rintro e w8 ⟨bs8, rfl, hb8, hM8⟩
       have H8 := hid hM8
       clear hM8)
  refine bodyPost_ret (v := .tuple #[.int .i64 s.length, .func (.func 157) #[] bs8, .nilIface]) (by simp [results, Tryz.results63, go_sem]) rfl ?_
  obtain ⟨hk3, h4, hfn⟩ := H5.out
  have hb := hb7.trans (hb8.mono hb7.size)
  have hz2 := hb2.size
  have hz3 := hk3.size
  have hk : Keeps F w w3 := (Keeps.of_below hb2).trans (hk3.mono (fun b _ e => .inl e))
  have hk5 : Keeps F w ((w3.setCell ⟨bn3, n * 4 + 3, none⟩ (.string (catB (x.cs.take k)))).drewN (1 + q)) := by
    have h6 := hk.setCell (p := ⟨bn3, n * 4 + 3, none⟩) (by rcases hfn with e | e; exact .inl e; exact .inr (by show w.heap.size ≤ bn3; omega)) (.string (catB (x.cs.take k)))
    exact ⟨h6.os, h6.tape, h6.output, h6.size, h6.block⟩
  have hk7 : Keeps F w w6 := hk5.trans (hk6.mono (fun b _ e => by rcases e with e | e; exact .inl e; exact .inr (by omega)))
  rw [HS.out] at hf6
  obtain ⟨bn6, cap6, pn6, hf6⟩ := hf6
  have hz6 := hk6.size
  have hsz : ((w3.setCell ⟨bn3, n * 4 + 3, none⟩ (.string (catB (x.cs.take k)))).drewN (1 + q)).heap.size = w3.heap.size := by show (w3.setCell _ _).heap.size = _; rw [World.size_setCell]
  refine ⟨_, w6.heap.size, rfl, hk7.trans (Keeps.of_below hb), by omega, Nat.le_trans hb7.size hb8.size, ⟨bn6, cap6, pn6, (hf6.narrow.below hb).wider (fun b h => ?_)⟩, H8.out⟩
  have hb6 := h.2
  rcases h.1 with (e | e) | e
  · exact .inl e
  · exact .inr ⟨by omega, hb6⟩
  · exact .inr ⟨by omega, hb6⟩
end
end Go.Proofs.YtabogkonklplcaaGreatDoor

namespace Go.Proofs.YtabogkonklplcaaGreatDoor
open Go.RowKit
set_option linter.unusedSimpArgs false
set_option linter.unusedVariables false
section
variable {w : World} {F : Nat → Prop} {bd bn cap : Nat} {rn : List RN} {rv : Value} {s : List Nd} {rs : List Sp}
end
end Go.Proofs.YtabogkonklplcaaGreatDoor

namespace Go.Proofs.YtabogkonklplcaaGreatDoor
open Go.RowKit
set_option linter.unusedSimpArgs false
set_option linter.unusedVariables false
section
variable {w : World} {F : Nat → Prop} {bd bn cap : Nat} {rn : List RN} {rv : Value} {s : List Nd} {rs : List Sp}
end
end Go.Proofs.YtabogkonklplcaaGreatDoor

namespace Go.Proofs.YtabogkonklplcaaGreatDoor
open Go.RowKit Go.Lib
set_option linter.unusedSimpArgs false
set_option linter.unusedVariables false
set_option maxHeartbeats 400000 in
theorem msplit_no {w : World} {F : Nat → Prop} {bx : Nat} {s s' : List Nd} {rs : List Sp} (hg : GG w) (hP : PLies w F bx ⟨s, rs⟩) {t : TypeId} {u : Value} {a y : Int} (A B : Int) (hE : ErrOf (.iface t u) a y)
    (hT : ∀ (F' : Nat → Prop) (bf : Nat), PFor w F' bf s → Calls Tryz.prog 63 #[ptr bf, .int .i64 A, .int .i64 B] w (TPost F' w bf s' (.tuple #[.int .i64 0, .nilFunc, .iface t u]))) :
    Calls Tryz.prog 30 #[ptr bx, .int .i64 A, .int .i64 B] w (PLPost F w bx ⟨s', rs⟩ (.tuple #[.int .i64 0, errV a y])) := by
  obtain ⟨bf, bl, sv, hD⟩ := hP
  have C := hid (hT _ _ hD.nodes)
  have c0 : w.cell? ⟨bx, 0, none⟩ = some (ptr bf) := cell_of_heap hD.doc 0
  have AF := hid (fun w1 w2 => pdoc_after (w1 := w1) (w2 := w2) (s' := s') hg hD)
  have AG := hid (fun w1 => gg_after (w1 := w1) (F := F) (bx := bx) (bl := bl) (sv := sv) hg)
  have E := hid (fun w1 (h1 : Glob w1) => mfollow_no h1 bx .nilFunc hE)
  clear hD hT hg hE
  go_enter Tryz.func30, Tryz.ntmps30
  go_wp2_with first
    | (go_at_call 63; refine C.out.mono ?_; rintro e w1 ⟨rfl, hk, hf⟩; have E1 := hid (E.out w1 (AG.out w1 hk)); have A1 := hid (fun w2 => AF.out w1 w2 hk hf); clear hk hf)
    | (go_at_call 64; refine E1.out.mono ?_; rintro e w2 ⟨rfl, hb⟩)
  go_ret2
  exact ⟨rfl, (A1.out _ hb).1, _, _, _, (A1.out _ hb).2⟩
theorem wf_half {s : List Nd} (wf : WF s) (h40 : s.length < 40) {n k : Nat} {x : Nd} (hx : s[n]? = some x) (ht : x.t = true) : WF ((s ++ [(⟨true, x.cs.drop k, [], -1⟩ : Nd)]).set n { x with cs := x.cs.take k }) := by
  have hch := wf.chars n x hx
  have hn := (List.getElem?_eq_some_iff.1 hx).1
  have w1 := wf_push wf h40 ⟨true, x.cs.drop k, [], -1⟩ rfl rfl (fun h => by cases h) ⟨by simp; omega, fun c hc => hch.2 c (List.mem_of_mem_drop hc)⟩
  exact wf_chars w1 (by rw [List.getElem?_append_left hn]; exact hx) ht ⟨by simp; omega, fun c hc => hch.2 c (List.mem_of_mem_take hc)⟩
end Go.Proofs.YtabogkonklplcaaGreatDoor
