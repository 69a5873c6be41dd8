import Derived.Test.YtabogkonklplcaaGreatDoorQ28
import Derived.Test.YtabogkonklplcaaGreatDoorQ06
import Derived.Test.YtabogkonklplcaaGreatDoorQ25
import Derived.Test.YtabogkonklplcaaGreatDoorQ26

namespace Go.Proofs.YtabogkonklplcaaGreatDoor
open Go.RowKit
set_option linter.unusedSimpArgs false
set_option linter.unusedVariables false
section
variable {F : Nat → Prop} {bf bn cap : Nat} {pn : List PN} {s : List Nd}
theorem write_any {B b : Nat} (wf : WF s) {h : Nat → Nat} {H : Nat} (u : Up s h H) (hF : ∀ b, F b → b < B) : ∀ (k n : Nat), n < s.length → h n < k → ∀ (w : World) (acc : ByteArray), PForAt w F bf bn cap pn s → Bld B b (Lib.strCells acc) w → B ≤ w.heap.size → acc.size + (shownF s k n).size + 20 < lots →
    Calls Tryz.prog 147 #[ptr bf, ptr b, .int .i64 n] w (Wrote B b (acc ++ shownF s k n) w) := by
  intro k
  induction k with
  | zero => intro n _ hk; omega
  | succ k ih =>
    intro n hn hk w acc hD hb hBw hlen
    have hx : s[n]? = some s[n] := List.getElem?_eq_getElem hn
    generalize s[n] = x at hx
    have h40 := wf.cap
    have hch := wf.chars n x hx
    have hkl : x.ks.length ≤ 40 := nodup_length 40 _ (wf.nodup n x hx) (fun c hc => by have := (wf.kid_lt u hx hc).1; omega)
    simp only [shownF, hx] at hlen ⊢
    cases ht : x.t with
    | true =>
      rw [ht, if_pos rfl, ByteArray.size_append] at hlen
      rw [if_pos rfl]
      exact write_text hD hF n x hx ht (by omega) acc hb hBw hch.2 (by omega)
    | false =>
      rw [ht, if_neg (by decide), ByteArray.size_append] at hlen
      rw [if_neg (by decide)]
      refine write_elem hD hF n x (shownF s k) hx ht (by omega) (by unfold lots; omega) acc hb hBw (by omega) (fun c hc w1 a1 h1 h2 h3 h4 => ?_)
      have := wf.kid_lt u hx hc
      exact ih c this.1 (by omega) w1 a1 h1 h2 h3 h4
variable {w : World}
set_option maxHeartbeats 1000000 in
theorem tshow_yes (wf : WF s) (hD : PFor w F bf s) (n : Nat) (hn : n < s.length) (t : ByteArray) (ht : Lim (fun k => shownF s k n) t) : Calls Tryz.prog 95 #[ptr bf, .int .i64 n] w (TPost F w bf s (.tuple #[.string t, .nilIface])) := by
  have HD := hid hD
  obtain ⟨h, H, u⟩ := wf.up
  obtain ⟨bn, cap, pn, hD⟩ := hD.narrow
  have C := hid (find_yes hD n (isB_of (by omega)))
  have hal := all_length wf (h n + 1) n hn
  have hsz := shown_size wf u (h n + 1) n hn (by omega)
  have e := (shown_lim wf u (k := h n + 1) (n := n) (by omega)).unique ht
  have hb0 : Bld w.heap.size w.heap.size (Lib.strCells ⟨#[]⟩) (w.alloc (.cells #[.pointer none, .slice none 0 0] 219)) :=
    .inl ⟨Nat.le_refl _, .slice none 0 0, heap_alloc_new w _, World.ownsRow_nil _ _ _ _, fun e => by cases e⟩
  have hbl : Below w.heap.size w (w.alloc (.cells #[.pointer none, .slice none 0 0] 219)) := (Below.refl _ w).alloc (Nat.le_refl _) _
  have CW := hid (write_any (B := w.heap.size) wf u (fun b hb => hb.2) (h n + 1) n hn (by omega) _ ⟨#[]⟩ (hD.under (fun b hb => hb.2) hbl) hb0 (by simp) (by unfold lots; have : (⟨#[]⟩ : ByteArray).size = 0 := rfl; omega))
  rw [e, show (⟨#[]⟩ : ByteArray) ++ t = t from by show ByteArray.empty ++ t = t; simp] at CW
  have HB := hid hbl
  clear hD hal hsz e hb0 hbl ht
  go_enter Tryz.func95, Tryz.ntmps95
  go_wp2_with first
    | (go_at_call 87; refine C.out.mono ?_; rintro e w1 ⟨rfl, rfl⟩)
    | (go_at_call 147; refine CW.out.mono ?_; rintro e w2 ⟨rfl, hu2, hb2⟩
       have hs2 := hb2.size
       have CS := hid (Tryz.Builder_String_any _ _ t.data.toList w2 (bld_of hu2) (by have := HB.out.size; omega)))
    | (go_at_call 148; refine CS.out.mono ?_; rintro e w3 ⟨rfl, hb3⟩)
  go_ret2
  have hb4 := HB.out.trans (hb2.trans hb3)
  exact ⟨rfl, Keeps.of_below hb4, (HD.out.below hb4).wider (fun b h => .inl h)⟩
end
end Go.Proofs.YtabogkonklplcaaGreatDoor

namespace Go.Proofs.YtabogkonklplcaaGreatDoor
open Go.RowKit
set_option linter.unusedSimpArgs false
set_option linter.unusedVariables false
theorem PlOk.splitTop {s : List Nd} {n k : Nat} {x : Nd} (hx : s[n]? = some x) (ht : x.t = true) (hk : k ≤ x.cs.length) {a b : Int} (h : PlOk s a b) :
    PlOk ((s ++ [(⟨true, x.cs.drop k, [], -1⟩ : Nd)]).set n { x with cs := x.cs.take k }) (resizeF n k ((x.cs.length - k : Nat) : Int) 0 a b).1 (resizeF n k ((x.cs.length - k : Nat) : Int) 0 a b).2 := by
  have hn := (List.getElem?_eq_some_iff.1 hx).1
  have := (h.push (⟨true, x.cs.drop k, [], -1⟩ : Nd)).replace (i := n) (o := k) (c := x.cs.length - k) (x := x) (cs := x.cs.take k) (g := 0) (by rw [List.getElem?_append_left hn]; exact hx) ht (by omega) (by simp; omega)
  exact this
theorem PlOk.splitIn {s : List Nd} {n k j m : Nat} {x y : Nd} (hx : s[n]? = some x) (ht : x.t = true) (hk : k ≤ x.cs.length) (hy : s[j]? = some y) (hyt : y.t = false) (hm : m < y.ks.length) (hnj : n ≠ j) {a b : Int} (h : PlOk s a b) :
    PlOk ((((s ++ [(⟨true, x.cs.drop k, [], -1⟩ : Nd)]).set n { x with cs := x.cs.take k }).set j { y with ks := y.ks.take (m + 1) ++ s.length :: y.ks.drop (m + 1) }).set s.length { (⟨true, x.cs.drop k, [], -1⟩ : Nd) with p := j }) (carryF n k s.length (shiftF j m 1) a b).1 (carryF n k s.length (shiftF j m 1) a b).2 := by
  have hn := (List.getElem?_eq_some_iff.1 hx).1
  have hj := (List.getElem?_eq_some_iff.1 hy).1
  obtain ⟨c, d, rfl, rfl, hc, hd⟩ := h
  have hsn : sizeAt s n = x.cs.length := by rw [sizeAt_eq hx, sizeN_text ht]
  have hsj : sizeAt s j = y.ks.length := by rw [sizeAt_eq hy, sizeN_elem hyt]
  have hsz : ∀ q, sizeAt ((((s ++ [(⟨true, x.cs.drop k, [], -1⟩ : Nd)]).set n { x with cs := x.cs.take k }).set j { y with ks := y.ks.take (m + 1) ++ s.length :: y.ks.drop (m + 1) }).set s.length { (⟨true, x.cs.drop k, [], -1⟩ : Nd) with p := j }) q =
      if q = s.length then x.cs.length - k else if q = j then y.ks.length + 1 else if q = n then k else sizeAt (s ++ [(⟨true, x.cs.drop k, [], -1⟩ : Nd)]) q := by
    intro q
    rw [sizeAt_set (by simp), sizeAt_set (by simp; omega), sizeAt_set (by simp; omega)]
    rw [sizeN_text (x := { (⟨true, x.cs.drop k, [], -1⟩ : Nd) with p := j }) rfl, sizeN_elem (x := { y with ks := y.ks.take (m + 1) ++ s.length :: y.ks.drop (m + 1) }) hyt, sizeN_text (x := { x with cs := x.cs.take k }) ht]
    have e1 : (x.cs.drop k).length = x.cs.length - k := by simp
    have e2 : (y.ks.take (m + 1) ++ s.length :: y.ks.drop (m + 1)).length = y.ks.length + 1 := by simp; omega
    have e3 : (x.cs.take k).length = k := by simp; omega
    simp only [e1, e2, e3]
  have hlen : ((((s ++ [(⟨true, x.cs.drop k, [], -1⟩ : Nd)]).set n { x with cs := x.cs.take k }).set j { y with ks := y.ks.take (m + 1) ++ s.length :: y.ks.drop (m + 1) }).set s.length { (⟨true, x.cs.drop k, [], -1⟩ : Nd) with p := j }).length = s.length + 1 := by simp
  unfold carryF
  by_cases h1 : (c : Int) = (n : Int) ∧ (k : Int) < (d : Int)
  · rw [if_pos h1]
    obtain rfl : c = n := by omega
    refine ⟨s.length, d - k, rfl, by show (d : Int) - k = _; omega, by rw [hlen]; omega, ?_⟩
    rw [hsz, if_pos rfl]
    omega
  · rw [if_neg h1]
    have hcne : c ≠ s.length := by omega
    unfold shiftF
    by_cases h2 : (c : Int) = (j : Int) ∧ (m : Int) < (d : Int)
    · rw [if_pos h2]
      obtain rfl : c = j := by omega
      refine ⟨c, d + 1, rfl, rfl, by rw [hlen]; omega, ?_⟩
      rw [hsz, if_neg hcne, if_pos rfl]
      omega
    · rw [if_neg h2]
      refine ⟨c, d, rfl, rfl, by rw [hlen]; omega, ?_⟩
      rw [hsz, if_neg hcne]
      by_cases h3 : c = j
      · subst h3
        rw [if_pos rfl]
        omega
      · rw [if_neg h3]
        by_cases h4 : c = n
        · subst h4
          rw [if_pos rfl]
          omega
        · rw [if_neg h4, sizeAt_push _ hc]
          exact hd
end Go.Proofs.YtabogkonklplcaaGreatDoor
