import Derived.Test.YtabogkonklplcaaGreatDoorK06
import Derived.Deep.RegionWith
import Derived.Deep.Cut
import Derived.Deep.CutRange
import Derived.Test.YtabogkonklplcaaGreatDoorK18
import Derived.Test.YtabogkonklplcaaGreatDoorK19
import Derived.Test.YtabogkonklplcaaGreatDoorK11
import Derived.Test.YtabogkonklplcaaGreatDoorK16

namespace Go.Proofs.YtabogkonklplcaaGreatDoor
open Go.RowKit
set_option linter.unusedSimpArgs false
set_option linter.unusedVariables false
section
variable {w : World} {F : Nat → Prop} {bd bn cap : Nat} {rn : List RN} {rv : Value} {s : List Nd} {rs : List Sp}
end
end Go.Proofs.YtabogkonklplcaaGreatDoor

namespace Go.Proofs.YtabogkonklplcaaGreatDoor
open Go.RowKit
set_option linter.unusedSimpArgs false
set_option linter.unusedVariables false
end Go.Proofs.YtabogkonklplcaaGreatDoor

namespace Go.Proofs.YtabogkonklplcaaGreatDoor
open Go.RowKit Go.Lib
set_option linter.unusedSimpArgs false
set_option linter.unusedVariables false
section
variable {w : World} {F : Nat → Prop} {bf bn cap : Nat} {pn : List PN} {s : List Nd}
set_option maxHeartbeats 400000 in
theorem place_no (hD : PForAt w F bf bn cap pn s) (n k : Int) (h : isB s n = false) : Calls Tryz.prog 98 #[ptr bf, .agg #[.int .i64 n, .int .i64 k]] w fun e w' => e = .returned (refusalV n 1) ∧ Below w.heap.size w w' := by
  have C := hid (fun w1 (hb : Below w.heap.size w w1) => find_no (hD.below hb) n h)
  clear hD h
  go_enter Tryz.func98, Tryz.ntmps98
  go_wp2_with (go_at_call 87; refine (C.out _ (by first | exact Below.refl _ _ | go_grown)).mono ?_; rintro e w1 ⟨rfl, rfl⟩)
  go_ret
  exact ⟨rfl, by go_grown⟩
set_option maxHeartbeats 1000000 in
theorem place_text (hD : PForAt w F bf bn cap pn s) (n : Nat) (k : Int) (x : Nd) (hx : s[n]? = some x) (ht : x.t = true) (hch : ∀ d ∈ x.cs, IsCh d) (hl : x.cs.length < lots) (ho : k < 0 ∨ (x.cs.length : Int) < k) :
    Calls Tryz.prog 98 #[ptr bf, .agg #[.int .i64 n, .int .i64 k]] w fun e w' => e = .returned (.iface 145 (.agg #[.int .i64 n, outV k])) ∧ Below w.heap.size w w' := by
  have hi : n < s.length := (List.getElem?_eq_some_iff.1 hx).1
  have hP : Below w.heap.size w (w.alloc (.cells #[.int .i64 n, .int .i64 k] 37)) := (Below.refl _ w).alloc (Nat.le_refl _) _
  have C := hid (find_yes (hD.below hP) n (isB_of (by omega)))
  have C2 := hid (fun w1 => find_out x.cs hch hl k ho w1)
  have h0 := hD.nodesCell
  have hlt := hD.lt
  obtain ⟨r, hr, ho', c0, c1, c2, c3⟩ := hD.look hx
  rw [ht] at c1
  clear hD c0 c2 hr ho' hx hch
  go_enter Tryz.func98, Tryz.ntmps98
  go_wp2_with (go_at_call 87; refine C.out.mono ?_; rintro e w1 ⟨rfl, hw1⟩; replace hw1 := hw1.symm; subst hw1)
  go_region
  go_wp2
  go_region_held3 (fun w' => w'.cell? ⟨bf, 0, none⟩ = some (.slice (some ⟨bn, 0, none⟩) s.length cap) ∧ w'.cell? ⟨w.heap.size, 0, none⟩ = some (.int .i64 n) ∧ w'.cell? ⟨w.heap.size, 1, none⟩ = some (.int .i64 k) ∧ w'.cell? ⟨bn, n * 4 + 3, none⟩ = some (.string (catB x.cs))) (first | exact KEEP.out | go_keep) ((
     go_at_call 102; refine (C2.out _).mono ?_; rintro e w2 ⟨rfl, hb2⟩
     have hq := (hb2.block w.heap.size (by simp)).trans (heap_alloc_new w (.cells #[.int .i64 n, .int .i64 k] 37))
     have q0 : w2.cell? ⟨w.heap.size, 0, none⟩ = some (.int .i64 n) := cell_of_heap hq 0
     have q1 : w2.cell? ⟨w.heap.size, 1, none⟩ = some (.int .i64 k) := cell_of_heap hq 1
     have hB2 : Below w.heap.size w w2 := hP.trans ⟨hb2.os, hb2.tape, hb2.output, Nat.le_trans (by simp) hb2.size, fun k hk => hb2.block k (by simp at hk ⊢; omega)⟩
     have KEEP := hid (And.intro ((hB2.cell (p := ⟨bf, 0, none⟩) hlt.1).trans h0) (And.intro q0 (And.intro q1 ((hB2.cell (p := ⟨bn, n * 4 + 3, none⟩) hlt.2).trans c3))))
     clear hq hb2))
  go_wp2
  go_ret
  exact ⟨rfl, hB2⟩
set_option maxHeartbeats 1000000 in
theorem place_elem (hD : PForAt w F bf bn cap pn s) (n : Nat) (k : Int) (x : Nd) (hx : s[n]? = some x) (ht : x.t = false) (ho : k < 0 ∨ (x.ks.length : Int) < k) :
    Calls Tryz.prog 98 #[ptr bf, .agg #[.int .i64 n, .int .i64 k]] w fun e w' => e = .returned (refusalV n 3) ∧ Below w.heap.size w w' := by
  have hi : n < s.length := (List.getElem?_eq_some_iff.1 hx).1
  have hP : Below w.heap.size w (w.alloc (.cells #[.int .i64 n, .int .i64 k] 37)) := (Below.refl _ w).alloc (Nat.le_refl _) _
  have C := hid (find_yes (hD.below hP) n (isB_of (by omega)))
  have h0 := hD.nodesCell
  have hlt := hD.lt
  obtain ⟨r, hr, ho', c0, c1, c2, c3⟩ := hD.look hx
  rw [ht] at c1
  obtain ⟨ka, kc, hkv⟩ := slice_shape ho'.kids
  rw [hkv] at c2
  clear hD c0 c3 hr ho' hx hkv
  by_cases hneg : k < 0
  · have hd : decide (k < 0) = true := decide_eq_true hneg
    go_enter Tryz.func98, Tryz.ntmps98
    go_wp2_with (go_at_call 87; refine C.out.mono ?_; rintro e w1 ⟨rfl, hw1⟩; replace hw1 := hw1.symm; subst hw1)
    go_region
    go_wp2
    go_region
    go_wp2
    go_ret
    exact ⟨rfl, by go_grown⟩
  · have hd : decide (k < 0) = false := decide_eq_false hneg
    have hd2 : decide ((x.ks.length : Int) < k) = true := decide_eq_true (by omega)
    go_enter Tryz.func98, Tryz.ntmps98
    go_wp2_with (go_at_call 87; refine C.out.mono ?_; rintro e w1 ⟨rfl, hw1⟩; replace hw1 := hw1.symm; subst hw1)
    go_region
    go_wp2
    go_region
    go_wp2
    go_ret
    exact ⟨rfl, by go_grown⟩
set_option maxHeartbeats 1000000 in
theorem place_ok (hD : PForAt w F bf bn cap pn s) (n k : Nat) (x : Nd) (hx : s[n]? = some x) (hch : ∀ d ∈ x.cs, IsCh d) (hl : x.cs.length < lots) (ho : k ≤ sizeN x) :
    Calls Tryz.prog 98 #[ptr bf, .agg #[.int .i64 n, .int .i64 (k : Int)]] w fun e w' => e = .returned .nilIface ∧ Below w.heap.size w w' := by
  have hi : n < s.length := (List.getElem?_eq_some_iff.1 hx).1
  have hP : Below w.heap.size w (w.alloc (.cells #[.int .i64 n, .int .i64 (k : Int)] 37)) := (Below.refl _ w).alloc (Nat.le_refl _) _
  have C := hid (find_yes (hD.below hP) n (isB_of (by omega)))
  have h0 := hD.nodesCell
  have hlt := hD.lt
  obtain ⟨r, hr, ho', c0, c1, c2, c3⟩ := hD.look hx
  obtain ⟨ka, kc, hkv⟩ := slice_shape ho'.kids
  rw [hkv] at c2
  cases ht : x.t with
  | true =>
    rw [ht] at c1
    rw [sizeN_text ht] at ho
    have C2 := hid (fun w1 => find_at x.cs hch hl k ho w1)
    clear hD c0 c2 hr ho' hx hch hkv
    go_enter Tryz.func98, Tryz.ntmps98
    go_wp2_with (go_at_call 87; refine C.out.mono ?_; rintro e w1 ⟨rfl, hw1⟩; replace hw1 := hw1.symm; subst hw1)
    go_region
    go_wp2
    go_region_held3 (fun w' => w'.cell? ⟨bf, 0, none⟩ = some (.slice (some ⟨bn, 0, none⟩) s.length cap) ∧ w'.cell? ⟨w.heap.size, 0, none⟩ = some (.int .i64 n) ∧ w'.cell? ⟨w.heap.size, 1, none⟩ = some (.int .i64 k) ∧ w'.cell? ⟨bn, n * 4 + 3, none⟩ = some (.string (catB x.cs))) (first | exact KEEP.out | go_keep) ((
       go_at_call 102; refine (C2.out _).mono ?_; rintro e w2 ⟨rfl, hb2⟩
       have hq := (hb2.block w.heap.size (by simp)).trans (heap_alloc_new w (.cells #[.int .i64 n, .int .i64 k] 37))
       have q0 : w2.cell? ⟨w.heap.size, 0, none⟩ = some (.int .i64 n) := cell_of_heap hq 0
       have q1 : w2.cell? ⟨w.heap.size, 1, none⟩ = some (.int .i64 k) := cell_of_heap hq 1
       have hB2 : Below w.heap.size w w2 := hP.trans ⟨hb2.os, hb2.tape, hb2.output, Nat.le_trans (by simp) hb2.size, fun k hk => hb2.block k (by simp at hk ⊢; omega)⟩
       have KEEP := hid (And.intro ((hB2.cell (p := ⟨bf, 0, none⟩) hlt.1).trans h0) (And.intro q0 (And.intro q1 ((hB2.cell (p := ⟨bn, n * 4 + 3, none⟩) hlt.2).trans c3))))
       clear hq hb2))
    go_wp2
    go_ret
    exact ⟨rfl, hB2⟩
  | false =>
    rw [ht] at c1
    rw [sizeN_elem ht] at ho
    have hd : decide ((k : Int) < 0) = false := decide_eq_false (by omega)
    have hd2 : decide ((x.ks.length : Int) < (k : Int)) = false := decide_eq_false (by omega)
    clear hD c0 c3 hr ho' hx hch hkv
    go_enter Tryz.func98, Tryz.ntmps98
    go_wp2_with (go_at_call 87; refine C.out.mono ?_; rintro e w1 ⟨rfl, hw1⟩; replace hw1 := hw1.symm; subst hw1)
    go_region
    go_wp2
    go_region
    go_wp2
    go_ret
    exact ⟨rfl, by go_grown⟩
set_option maxRecDepth 20000 in
set_option maxHeartbeats 1000000 in
theorem ttop_any (wf : WF s) (hD : PForAt w F bf bn cap pn s) (n : Nat) (hn : n < s.length) :
    Calls Tryz.prog 99 #[ptr bf, .int .i64 n] w (TopPost s n w) := by
  obtain ⟨h, B, u⟩ := wf.up
  have h0 := hD.nodesCell
  have HD := hid hD
  have HW := hid wf
  have HU := hid u
  clear hD wf u
  go_enter Tryz.func99, Tryz.ntmps99
  go_wp2
  go_loopw [1] (fun a wr => TopInv s n w a wr) (fun a _ => upMeas h B (intOf a))
  case atStart => exact ⟨rfl, n, 0, rfl, hn, rfl⟩
  case round =>
    obtain ⟨rfl, c, m, rfl, hc, hm⟩ := hrel
    obtain ⟨x, hx⟩ : ∃ x, s[c]? = some x := ⟨_, List.getElem?_eq_getElem hc⟩
    obtain ⟨r, hr, ho, c0, c1, c2, c3⟩ := HD.out.look hx
    have HM := hid hm
    have HX := hid hx
    clear c1 c2 c3 hr ho hm hx
    by_cases hp : 0 ≤ x.p
    · have hup := upMeas_lt HU.out HX.out
      have hpar := (HU.out.par c x HX.out hp).1
      have HUP := hid hup
      have hp1 : (x.p == -1) = false := by simp; omega
      clear hup
      go_wp2
      go_roundw
      case rel =>
        obtain ⟨q, hq⟩ := Int.eq_ofNat_of_zero_le hp
        refine ⟨rfl, q, m + 1, by rw [hq], by omega, ?_⟩
        rw [climb_step HM.out]
        simp [parOf, HX.out, hq]
      case measure => exact HUP.out
    · have hp1 : x.p = -1 := by
        rcases HW.out.par c x HX.out with e | ⟨q, y, e, _⟩
        · exact e
        · omega
      rw [hp1] at c0
      go_wp2
      go_ret
      exact ⟨⟨c, rfl, ⟨m, HM.out⟩, x, HX.out, hp1⟩, rfl⟩
end
end Go.Proofs.YtabogkonklplcaaGreatDoor

namespace Go.Proofs.YtabogkonklplcaaGreatDoor
open Go.RowKit Go.Lib
set_option linter.unusedSimpArgs false
set_option linter.unusedVariables false
def CmpInv (l m : List Nat) (w : World) (a : Value) (wr : World) : Prop := wr = w ∧ ∃ i : Nat, a = .int .i64 (i : Int) ∧ i ≤ l.length ∧ i ≤ m.length ∧ lexC l m = lexC (l.drop i) (m.drop i)
theorem lex_over {l : List Nat} {i : Nat} (h : i < l.length) : lexC (l.drop i) [] = 1 := by
  rw [List.drop_eq_getElem_cons h]; rfl
theorem lex_at {l m : List Nat} {i : Nat} (h : i < l.length) (h' : i < m.length) : lexC (l.drop i) (m.drop i) = if Lib.compareInt (l[i] : Int) (m[i] : Int) = 0 then lexC (l.drop (i + 1)) (m.drop (i + 1)) else Lib.compareInt (l[i] : Int) (m[i] : Int) := by
  rw [List.drop_eq_getElem_cons h, List.drop_eq_getElem_cons h']
  generalize l.drop (i + 1) = A
  generalize m.drop (i + 1) = B
  generalize l[i] = a
  generalize m[i] = b
  have e : lexC (a :: A) (b :: B) = if a < b then -1 else if b < a then 1 else lexC A B := rfl
  rw [e]
  by_cases h1 : a < b
  · have hc : Lib.compareInt (a : Int) (b : Int) = -1 := by unfold Lib.compareInt; rw [if_pos (by omega)]
    rw [hc, if_pos h1, if_neg (by decide)]
  · by_cases h2 : b < a
    · have hc : Lib.compareInt (a : Int) (b : Int) = 1 := by unfold Lib.compareInt; rw [if_neg (by omega), if_pos (by omega)]
      rw [hc, if_neg h1, if_pos h2, if_neg (by decide)]
    · have hc : Lib.compareInt (a : Int) (b : Int) = 0 := by unfold Lib.compareInt; rw [if_neg (by omega), if_neg (by omega)]
      rw [hc, if_neg h1, if_neg h2, if_pos rfl]
theorem lex_done {l m : List Nat} (h : l.length ≤ m.length) : lexC (l.drop l.length) (m.drop l.length) = if l.length < m.length then -1 else 0 := by
  rw [List.drop_length]
  by_cases hl : l.length < m.length
  · rw [if_pos hl, List.drop_eq_getElem_cons hl]; rfl
  · rw [if_neg hl, List.drop_of_length_le (by omega)]; rfl
set_option maxRecDepth 20000 in
set_option maxHeartbeats 1000000 in
theorem scmp_any (l m : List Nat) (g1 c1 g2 c2 : Nat) (w : World) (h1 : ∀ (j x : Nat), l[j]? = some x → w.cell? ⟨g1, j, none⟩ = some (.int .i64 x)) (h2 : ∀ (j x : Nat), m[j]? = some x → w.cell? ⟨g2, j, none⟩ = some (.int .i64 x)) (hl : l.length < lots) (hm : m.length < lots) :
    Calls Tryz.prog 152 #[.slice (some ⟨g1, 0, none⟩) l.length c1, .slice (some ⟨g2, 0, none⟩) m.length c2] w fun e w' => e = .returned (.int .i64 (lexC l m)) ∧ w' = w := by
  have H1 := hid h1
  have H2 := hid h2
  unfold lots at hl hm
  clear h1 h2
  go_enter Tryz.func152, Tryz.ntmps152
  go_wp2
  go_loopw [11] (fun a wr => CmpInv l m w a wr) (fun a _ => l.length - (intOf a).toNat)
  case atStart => exact ⟨rfl, 0, rfl, Nat.zero_le _, Nat.zero_le _, rfl⟩
  case round =>
    obtain ⟨rfl, i, rfl, hi, hi2, he⟩ := hrel
    have HE := hid he
    clear he
    by_cases hlt : i < l.length
    · have a1 := H1.out i l[i] (List.getElem?_eq_getElem hlt)
      have d1 : decide ((i : Int) < (l.length : Int)) = true := decide_eq_true (by omega)
      by_cases hm2 : i < m.length
      · have a2 := H2.out i m[i] (List.getElem?_eq_getElem hm2)
        have d2 : decide ((m.length : Int) ≤ (i : Int)) = false := decide_eq_false (by omega)
        have LA := hid (lex_at hlt hm2)
        have C := hid (Tryz.cmp_Compare_int (l[i] : Int) (m[i] : Int) wr)
        obtain ⟨c, hc⟩ : ∃ c, Lib.compareInt (l[i] : Int) (m[i] : Int) = c := ⟨_, rfl⟩
        rw [hc] at C LA
        clear hc
        generalize l[i] = lv at *
        generalize m[i] = mv at *
        by_cases h0 : c = 0
        · subst h0
          go_wp2_with (go_at_call 180; refine C.out.mono ?_; rintro e w1 ⟨rfl, hw1⟩; replace hw1 := hw1.symm; subst hw1)
          go_roundw
          case rel =>
            refine ⟨rfl, i + 1, by go_num, hlt, hm2, ?_⟩
            rw [HE.out, LA.out]; simp
          case measure =>
            show l.length - ((i : Int) + 1).toNat < l.length - ((i : Int)).toNat
            omega
        · have h0' : (c == 0) = false := by simpa using h0
          go_wp2_with (go_at_call 180; refine C.out.mono ?_; rintro e w1 ⟨rfl, hw1⟩; replace hw1 := hw1.symm; subst hw1)
          go_ret
          refine ⟨?_, rfl⟩
          rw [HE.out, LA.out, if_neg h0]; rfl
      · have d2 : decide ((m.length : Int) ≤ (i : Int)) = true := decide_eq_true (by omega)
        go_wp2
        go_ret
        refine ⟨?_, rfl⟩
        have hd : m.drop i = [] := List.drop_of_length_le (by omega)
        rw [HE.out, hd, lex_over hlt]; rfl
    · obtain rfl : i = l.length := by omega
      have LD := hid (lex_done hi2)
      by_cases hlm : l.length < m.length
      · have d3 : decide ((l.length : Int) < (m.length : Int)) = true := decide_eq_true (by omega)
        go_wp2
        go_ret
        refine ⟨?_, rfl⟩
        rw [HE.out, LD.out, if_pos hlm]; rfl
      · have d3 : decide ((l.length : Int) < (m.length : Int)) = false := decide_eq_false (by omega)
        go_wp2
        go_ret
        refine ⟨?_, rfl⟩
        rw [HE.out, LD.out, if_neg hlm]; rfl
end Go.Proofs.YtabogkonklplcaaGreatDoor
