import Derived.Test.YtabogkonklplcaaGreatDoorV19
import Derived.Test.YtabogkonklplcaaGreatDoorV21
import Derived.Test.YtabogkonklplcaaGreatDoorV27
import Derived.Test.YtabogkonklplcaaGreatDoorV09
import Derived.Test.YtabogkonklplcaaGreatDoorV18

namespace Go.Proofs.YtabogkonklplcaaGreatDoor
open Go.RowKit Go.Lib
set_option linter.unusedSimpArgs false
set_option linter.unusedVariables false
section
variable {w : World} {F : Nat → Prop} {bf bn cap : Nat} {pn : List PN} {s : List Nd}
set_option maxHeartbeats 400000 in
theorem place_no (hD : PForAt w F bf bn cap pn s) (n k : Int) (h : isB s n = false) : Calls Tryz.prog 98 #[ptr bf, .agg #[.int .i64 n, .int .i64 k]] w fun e w' => e = .returned (refusalV n 1) ∧ Below w.heap.size w w' := by
  have C := hid (fun w1 (hb : Below w.heap.size w w1) => find_no (hD.below hb) n h)
  clear hD h
  go_enter Tryz.func98, Tryz.ntmps98
  go_wp2_with (go_at_call 87; refine (C.out _ (by first | exact Below.refl _ _ | go_grown)).mono ?_; rintro e w1 ⟨rfl, rfl⟩)
  go_ret
  exact ⟨rfl, by go_grown⟩
set_option maxHeartbeats 1000000 in
theorem place_text (hD : PForAt w F bf bn cap pn s) (n : Nat) (k : Int) (x : Nd) (hx : s[n]? = some x) (ht : x.t = true) (hch : ∀ d ∈ x.cs, IsCh d) (hl : x.cs.length < lots) (ho : k < 0 ∨ (x.cs.length : Int) < k) :
    Calls Tryz.prog 98 #[ptr bf, .agg #[.int .i64 n, .int .i64 k]] w fun e w' => e = .returned (.iface 145 (.agg #[.int .i64 n, outV k])) ∧ Below w.heap.size w w' := by
  have hi : n < s.length := (List.getElem?_eq_some_iff.1 hx).1
  have hP : Below w.heap.size w (w.alloc (.cells #[.int .i64 n, .int .i64 k] 37)) := (Below.refl _ w).alloc (Nat.le_refl _) _
  have C := hid (find_yes (hD.below hP) n (isB_of (by omega)))
  have C2 := hid (fun w1 => find_out x.cs hch hl k ho w1)
  have h0 := hD.nodesCell
  have hlt := hD.lt
  obtain ⟨r, hr, ho', c0, c1, c2, c3⟩ := hD.look hx
  rw [ht] at c1
  clear hD c0 c2 hr ho' hx hch
  go_enter Tryz.func98, Tryz.ntmps98
  go_wp2_with (go_at_call 87; refine C.out.mono ?_; rintro e w1 ⟨rfl, hw1⟩; replace hw1 := hw1.symm; subst hw1)
  go_region
  go_wp2
  go_region_held3 (fun w' => w'.cell? ⟨bf, 0, none⟩ = some (.slice (some ⟨bn, 0, none⟩) s.length cap) ∧ w'.cell? ⟨w.heap.size, 0, none⟩ = some (.int .i64 n) ∧ w'.cell? ⟨w.heap.size, 1, none⟩ = some (.int .i64 k) ∧ w'.cell? ⟨bn, n * 4 + 3, none⟩ = some (.string (catB x.cs))) (first | exact KEEP.out | go_keep) ((
     go_at_call 102; refine (C2.out _).mono ?_; rintro e w2 ⟨rfl, hb2⟩
     have hq := (hb2.block w.heap.size (by simp)).trans (heap_alloc_new w (.cells #[.int .i64 n, .int .i64 k] 37))
     have q0 : w2.cell? ⟨w.heap.size, 0, none⟩ = some (.int .i64 n) := cell_of_heap hq 0
     have q1 : w2.cell? ⟨w.heap.size, 1, none⟩ = some (.int .i64 k) := cell_of_heap hq 1
     have hB2 : Below w.heap.size w w2 := hP.trans ⟨hb2.os, hb2.tape, hb2.output, Nat.le_trans (by simp) hb2.size, fun k hk => hb2.block k (by simp at hk ⊢; omega)⟩
     have KEEP := hid (And.intro ((hB2.cell (p := ⟨bf, 0, none⟩) hlt.1).trans h0) (And.intro q0 (And.intro q1 ((hB2.cell (p := ⟨bn, n * 4 + 3, none⟩) hlt.2).trans c3))))
     clear hq hb2))
  go_wp2
  go_ret
  exact ⟨rfl, hB2⟩
set_option maxHeartbeats 1000000 in
theorem place_elem (hD : PForAt w F bf bn cap pn s) (n : Nat) (k : Int) (x : Nd) (hx : s[n]? = some x) (ht : x.t = false) (ho : k < 0 ∨ (x.ks.length : Int) < k) :
    Calls Tryz.prog 98 #[ptr bf, .agg #[.int .i64 n, .int .i64 k]] w fun e w' => e = .returned (refusalV n 3) ∧ Below w.heap.size w w' := by
  have hi : n < s.length := (List.getElem?_eq_some_iff.1 hx).1
  have hP : Below w.heap.size w (w.alloc (.cells #[.int .i64 n, .int .i64 k] 37)) := (Below.refl _ w).alloc (Nat.le_refl _) _
  have C := hid (find_yes (hD.below hP) n (isB_of (by omega)))
  have h0 := hD.nodesCell
  have hlt := hD.lt
  obtain ⟨r, hr, ho', c0, c1, c2, c3⟩ := hD.look hx
  rw [ht] at c1
  obtain ⟨ka, kc, hkv⟩ := slice_shape ho'.kids
  rw [hkv] at c2
  clear hD c0 c3 hr ho' hx hkv
  by_cases hneg : k < 0
  · have hd : decide (k < 0) = true := decide_eq_true hneg
    go_enter Tryz.func98, Tryz.ntmps98
    go_wp2_with (go_at_call 87; refine C.out.mono ?_; rintro e w1 ⟨rfl, hw1⟩; replace hw1 := hw1.symm; subst hw1)
    go_region
    go_wp2
    go_region
    go_wp2
    go_ret
    exact ⟨rfl, by go_grown⟩
  · have hd : decide (k < 0) = false := decide_eq_false hneg
    have hd2 : decide ((x.ks.length : Int) < k) = true := decide_eq_true (by omega)
    go_enter Tryz.func98, Tryz.ntmps98
    go_wp2_with (go_at_call 87; refine C.out.mono ?_; rintro e w1 ⟨rfl, hw1⟩; replace hw1 := hw1.symm; subst hw1)
    go_region
    go_wp2
    go_region
    go_wp2
    go_ret
    exact ⟨rfl, by go_grown⟩
set_option maxHeartbeats 1000000 in
theorem place_ok (hD : PForAt w F bf bn cap pn s) (n k : Nat) (x : Nd) (hx : s[n]? = some x) (hch : ∀ d ∈ x.cs, IsCh d) (hl : x.cs.length < lots) (ho : k ≤ sizeN x) :
    Calls Tryz.prog 98 #[ptr bf, .agg #[.int .i64 n, .int .i64 (k : Int)]] w fun e w' => e = .returned .nilIface ∧ Below w.heap.size w w' := by
  have hi : n < s.length := (List.getElem?_eq_some_iff.1 hx).1
  have hP : Below w.heap.size w (w.alloc (.cells #[.int .i64 n, .int .i64 (k : Int)] 37)) := (Below.refl _ w).alloc (Nat.le_refl _) _
  have C := hid (find_yes (hD.below hP) n (isB_of (by omega)))
  have h0 := hD.nodesCell
  have hlt := hD.lt
  obtain ⟨r, hr, ho', c0, c1, c2, c3⟩ := hD.look hx
  obtain ⟨ka, kc, hkv⟩ := slice_shape ho'.kids
  rw [hkv] at c2
  cases ht : x.t with
  | true =>
    rw [ht] at c1
    rw [sizeN_text ht] at ho
    have C2 := hid (fun w1 => find_at x.cs hch hl k ho w1)
    clear hD c0 c2 hr ho' hx hch hkv
    go_enter Tryz.func98, Tryz.ntmps98
    go_wp2_with (go_at_call 87; refine C.out.mono ?_; rintro e w1 ⟨rfl, hw1⟩; replace hw1 := hw1.symm; subst hw1)
    go_region
    go_wp2
    go_region_held3 (fun w' => w'.cell? ⟨bf, 0, none⟩ = some (.slice (some ⟨bn, 0, none⟩) s.length cap) ∧ w'.cell? ⟨w.heap.size, 0, none⟩ = some (.int .i64 n) ∧ w'.cell? ⟨w.heap.size, 1, none⟩ = some (.int .i64 k) ∧ w'.cell? ⟨bn, n * 4 + 3, none⟩ = some (.string (catB x.cs))) (first | exact KEEP.out | go_keep) ((
       go_at_call 102; refine (C2.out _).mono ?_; rintro e w2 ⟨rfl, hb2⟩
       have hq := (hb2.block w.heap.size (by simp)).trans (heap_alloc_new w (.cells #[.int .i64 n, .int .i64 k] 37))
       have q0 : w2.cell? ⟨w.heap.size, 0, none⟩ = some (.int .i64 n) := cell_of_heap hq 0
       have q1 : w2.cell? ⟨w.heap.size, 1, none⟩ = some (.int .i64 k) := cell_of_heap hq 1
       have hB2 : Below w.heap.size w w2 := hP.trans ⟨hb2.os, hb2.tape, hb2.output, Nat.le_trans (by simp) hb2.size, fun k hk => hb2.block k (by simp at hk ⊢; omega)⟩
       have KEEP := hid (And.intro ((hB2.cell (p := ⟨bf, 0, none⟩) hlt.1).trans h0) (And.intro q0 (And.intro q1 ((hB2.cell (p := ⟨bn, n * 4 + 3, none⟩) hlt.2).trans c3))))
       clear hq hb2))
    go_wp2
    go_ret
    exact ⟨rfl, hB2⟩
  | false =>
    rw [ht] at c1
    rw [sizeN_elem ht] at ho
    have hd : decide ((k : Int) < 0) = false := decide_eq_false (by omega)
    have hd2 : decide ((x.ks.length : Int) < (k : Int)) = false := decide_eq_false (by omega)
    clear hD c0 c3 hr ho' hx hch hkv
    go_enter Tryz.func98, Tryz.ntmps98
    go_wp2_with (go_at_call 87; refine C.out.mono ?_; rintro e w1 ⟨rfl, hw1⟩; replace hw1 := hw1.symm; subst hw1)
    go_region
    go_wp2
    go_region
    go_wp2
    go_ret
    exact ⟨rfl, by go_grown⟩
set_option maxRecDepth 20000 in
set_option maxHeartbeats 1000000 in
theorem ttop_any (wf : WF s) (hD : PForAt w F bf bn cap pn s) (n : Nat) (hn : n < s.length) :
    Calls Tryz.prog 99 #[ptr bf, .int .i64 n] w (TopPost s n w) := by
  obtain ⟨h, B, u⟩ := wf.up
  have h0 := hD.nodesCell
  have HD := hid hD
  have HW := hid wf
  have HU := hid u
  clear hD wf u
  go_enter Tryz.func99, Tryz.ntmps99
  go_wp2
  go_loopw [1] (fun a wr => TopInv s n w a wr) (fun a _ => upMeas h B (intOf a))
  case atStart => exact ⟨rfl, n, 0, rfl, hn, rfl⟩
  case round =>
    obtain ⟨rfl, c, m, rfl, hc, hm⟩ := hrel
    obtain ⟨x, hx⟩ : ∃ x, s[c]? = some x := ⟨_, List.getElem?_eq_getElem hc⟩
    obtain ⟨r, hr, ho, c0, c1, c2, c3⟩ := HD.out.look hx
    have HM := hid hm
    have HX := hid hx
    clear c1 c2 c3 hr ho hm hx
    by_cases hp : 0 ≤ x.p
    · have hup := upMeas_lt HU.out HX.out
      have hpar := (HU.out.par c x HX.out hp).1
      have HUP := hid hup
      have hp1 : (x.p == -1) = false := by simp; omega
      clear hup
      go_wp2
      go_roundw
      case rel =>
        obtain ⟨q, hq⟩ := Int.eq_ofNat_of_zero_le hp
        refine ⟨rfl, q, m + 1, by rw [hq], by omega, ?_⟩
        rw [climb_step HM.out]
        simp [parOf, HX.out, hq]
      case measure => exact HUP.out
    · have hp1 : x.p = -1 := by
        rcases HW.out.par c x HX.out with e | ⟨q, y, e, _⟩
        · exact e
        · omega
      rw [hp1] at c0
      go_wp2
      go_ret
      exact ⟨⟨c, rfl, ⟨m, HM.out⟩, x, HX.out, hp1⟩, rfl⟩
end
end Go.Proofs.YtabogkonklplcaaGreatDoor

namespace Go.Proofs.YtabogkonklplcaaGreatDoor
open Go.RowKit Go.Lib
set_option linter.unusedSimpArgs false
set_option linter.unusedVariables false
def CmpInv (l m : List Nat) (w : World) (a : Value) (wr : World) : Prop := wr = w ∧ ∃ i : Nat, a = .int .i64 (i : Int) ∧ i ≤ l.length ∧ i ≤ m.length ∧ lexC l m = lexC (l.drop i) (m.drop i)
theorem lex_over {l : List Nat} {i : Nat} (h : i < l.length) : lexC (l.drop i) [] = 1 := by
  rw [List.drop_eq_getElem_cons h]; rfl
theorem lex_at {l m : List Nat} {i : Nat} (h : i < l.length) (h' : i < m.length) : lexC (l.drop i) (m.drop i) = if Lib.compareInt (l[i] : Int) (m[i] : Int) = 0 then lexC (l.drop (i + 1)) (m.drop (i + 1)) else Lib.compareInt (l[i] : Int) (m[i] : Int) := by
  rw [List.drop_eq_getElem_cons h, List.drop_eq_getElem_cons h']
  generalize l.drop (i + 1) = A
  generalize m.drop (i + 1) = B
  generalize l[i] = a
  generalize m[i] = b
  have e : lexC (a :: A) (b :: B) = if a < b then -1 else if b < a then 1 else lexC A B := rfl
  rw [e]
  by_cases h1 : a < b
  · have hc : Lib.compareInt (a : Int) (b : Int) = -1 := by unfold Lib.compareInt; rw [if_pos (by omega)]
    rw [hc, if_pos h1, if_neg (by decide)]
  · by_cases h2 : b < a
    · have hc : Lib.compareInt (a : Int) (b : Int) = 1 := by unfold Lib.compareInt; rw [if_neg (by omega), if_pos (by omega)]
      rw [hc, if_neg h1, if_pos h2, if_neg (by decide)]
    · have hc : Lib.compareInt (a : Int) (b : Int) = 0 := by unfold Lib.compareInt; rw [if_neg (by omega), if_neg (by omega)]
      rw [hc, if_neg h1, if_neg h2, if_pos rfl]
theorem lex_done {l m : List Nat} (h : l.length ≤ m.length) : lexC (l.drop l.length) (m.drop l.length) = if l.length < m.length then -1 else 0 := by
  rw [List.drop_length]
  by_cases hl : l.length < m.length
  · rw [if_pos hl, List.drop_eq_getElem_cons hl]; rfl
  · rw [if_neg hl, List.drop_of_length_le (by omega)]; rfl
set_option maxRecDepth 20000 in
set_option maxHeartbeats 1000000 in
theorem scmp_any (l m : List Nat) (g1 c1 g2 c2 : Nat) (w : World) (h1 : ∀ (j x : Nat), l[j]? = some x → w.cell? ⟨g1, j, none⟩ = some (.int .i64 x)) (h2 : ∀ (j x : Nat), m[j]? = some x → w.cell? ⟨g2, j, none⟩ = some (.int .i64 x)) (hl : l.length < lots) (hm : m.length < lots) :
    Calls Tryz.prog 152 #[.slice (some ⟨g1, 0, none⟩) l.length c1, .slice (some ⟨g2, 0, none⟩) m.length c2] w fun e w' => e = .returned (.int .i64 (lexC l m)) ∧ w' = w := by
  have H1 := hid h1
  have H2 := hid h2
  unfold lots at hl hm
  clear h1 h2
  go_enter Tryz.func152, Tryz.ntmps152
  go_wp2
  go_loopw [11] (fun a wr => CmpInv l m w a wr) (fun a _ => l.length - (intOf a).toNat)
  case atStart => exact ⟨rfl, 0, rfl, Nat.zero_le _, Nat.zero_le _, rfl⟩
  case round =>
    obtain ⟨rfl, i, rfl, hi, hi2, he⟩ := hrel
    have HE := hid he
    clear he
    by_cases hlt : i < l.length
    · have a1 := H1.out i l[i] (List.getElem?_eq_getElem hlt)
      have d1 : decide ((i : Int) < (l.length : Int)) = true := decide_eq_true (by omega)
      by_cases hm2 : i < m.length
      · have a2 := H2.out i m[i] (List.getElem?_eq_getElem hm2)
        have d2 : decide ((m.length : Int) ≤ (i : Int)) = false := decide_eq_false (by omega)
        have LA := hid (lex_at hlt hm2)
        have C := hid (Tryz.cmp_Compare_int (l[i] : Int) (m[i] : Int) wr)
        obtain ⟨c, hc⟩ : ∃ c, Lib.compareInt (l[i] : Int) (m[i] : Int) = c := ⟨_, rfl⟩
        rw [hc] at C LA
        clear hc
        generalize l[i] = lv at *
        generalize m[i] = mv at *
        by_cases h0 : c = 0
        · subst h0
          go_wp2_with (go_at_call 180; refine C.out.mono ?_; rintro e w1 ⟨rfl, hw1⟩; replace hw1 := hw1.symm; subst hw1)
          go_roundw
          case rel =>
            refine ⟨rfl, i + 1, by go_num, hlt, hm2, ?_⟩
            rw [HE.out, LA.out]; simp
          case measure =>
            show l.length - ((i : Int) + 1).toNat < l.length - ((i : Int)).toNat
            omega
        · have h0' : (c == 0) = false := by simpa using h0
          go_wp2_with (go_at_call 180; refine C.out.mono ?_; rintro e w1 ⟨rfl, hw1⟩; replace hw1 := hw1.symm; subst hw1)
          go_ret
          refine ⟨?_, rfl⟩
          rw [HE.out, LA.out, if_neg h0]; rfl
      · have d2 : decide ((m.length : Int) ≤ (i : Int)) = true := decide_eq_true (by omega)
        go_wp2
        go_ret
        refine ⟨?_, rfl⟩
        have hd : m.drop i = [] := List.drop_of_length_le (by omega)
        rw [HE.out, hd, lex_over hlt]; rfl
    · obtain rfl : i = l.length := by omega
      have LD := hid (lex_done hi2)
      by_cases hlm : l.length < m.length
      · have d3 : decide ((l.length : Int) < (m.length : Int)) = true := decide_eq_true (by omega)
        go_wp2
        go_ret
        refine ⟨?_, rfl⟩
        rw [HE.out, LD.out, if_pos hlm]; rfl
      · have d3 : decide ((l.length : Int) < (m.length : Int)) = false := decide_eq_false (by omega)
        go_wp2
        go_ret
        refine ⟨?_, rfl⟩
        rw [HE.out, LD.out, if_neg hlm]; rfl
end Go.Proofs.YtabogkonklplcaaGreatDoor

namespace Go.Proofs.YtabogkonklplcaaGreatDoor
open Go.RowKit Go.Lib
set_option linter.unusedSimpArgs false
set_option linter.unusedVariables false
theorem below_draw (w : World) (q : Nat) : Below w.heap.size w (w.drewN q) := ⟨rfl, rfl, rfl, Nat.le_refl _, fun _ _ => rfl⟩
theorem flat_len {f : Nat → List Nat} {ks : List Nat} {c : Nat} (h : c ∈ ks) : (f c).length ≤ (ks.flatMap f).length := by
  induction ks with
  | nil => cases h
  | cons a l ih =>
    rw [List.flatMap_cons, List.length_append]
    rcases List.mem_cons.1 h with rfl | h
    · omega
    · have := ih h; omega
theorem up40 {s : List Nd} (wf : WF s) : ∃ h, Up s h 40 := by
  obtain ⟨h, B, u⟩ := wf.up
  refine ⟨fun n => if n < s.length then (allF s (h n + 1) n).length else 0, fun i => ?_, fun i x hx hp => ?_⟩
  · show (if i < s.length then (allF s (h i + 1) i).length else 0) ≤ 40
    split
    · exact all_length wf _ _ ‹_›
    · omega
  · have hi := (List.getElem?_eq_some_iff.1 hx).1
    obtain ⟨h1, h2⟩ := u.par i x hx hp
    refine ⟨h1, ?_⟩
    rcases wf.par i x hx with e | ⟨q, y, e, hy, hm⟩
    · omega
    · have hq := (List.getElem?_eq_some_iff.1 hy).1
      rw [e] at h2 ⊢
      simp only [Int.toNat_natCast] at h2 ⊢
      rw [if_pos hi, if_pos hq]
      have e2 : allF s (h q + 1) q = q :: (kidsOf s q).flatMap (allF s (h q)) := rfl
      have e3 : allF s (h i + 1) i = allF s (h q) i := all_stable wf u _ _ _ (by omega) h2
      rw [e2, e3, List.length_cons]
      have := flat_len (f := allF s (h q)) (show i ∈ kidsOf s q by rw [kidsOf_eq hy]; exact hm)
      omega
theorem way_top {s : List Nd} {t n : Nat} {l : List Nat} (wf : WF s) (w : Way s t n l) {x : Nd} (hx : s[t]? = some x) (hp : x.p = -1) : IsTop s n t := by
  induction w with
  | top => exact ⟨⟨0, rfl⟩, x, hx, hp⟩
  | @down q c i l y w hq hi ih =>
    obtain ⟨z, hz, hzp⟩ := wf.kid q y hq c (List.mem_of_getElem? hi)
    exact IsTop.up hz hzp ih
def PathInv (s : List Nd) (h : Nat → Nat) (n k : Nat) (w : World) (pv nv : Value) (wr : World) : Prop :=
  ∃ (c : Nat) (l : List Nat), nv = .int .i64 (c : Int) ∧ wr.ownsRow (w.heap.size + 1) 3 1 pv (l.length + 1) (intsV (k :: l.reverse)) ∧ Below w.heap.size w wr ∧ w.heap.size + 1 ≤ wr.heap.size ∧ c < s.length ∧ h n + l.length ≤ h c ∧ (∀ t L, Way s t c L → Way s t n (L ++ l))
def PathPost (s : List Nd) (n k : Nat) (w : World) (e : Ending) (w' : World) : Prop :=
  ∃ (t : Nat) (l : List Nat) (g c : Nat), e = .returned (.slice (some ⟨g, 0, none⟩) (l ++ [k]).length c) ∧ Way s t n l ∧ IsTop s n t ∧ l.length ≤ 40 ∧ w.heap.size ≤ g ∧ g < w'.heap.size ∧ (∀ (j x : Nat), (l ++ [k])[j]? = some x → w'.cell? ⟨g, j, none⟩ = some (.int .i64 (x : Int))) ∧ Below w.heap.size w w'
section
variable {w : World} {F : Nat → Prop} {bf bn cap : Nat} {pn : List PN} {s : List Nd}
set_option maxRecDepth 20000 in
set_option maxHeartbeats 1000000 in
theorem tpath_any (wf : WF s) (hD : PForAt w F bf bn cap pn s) (n k : Nat) (hn : n < s.length) :
    Calls Tryz.prog 153 #[ptr bf, .agg #[.int .i64 (n : Int), .int .i64 (k : Int)]] w (PathPost s n k w) := by
  obtain ⟨h, u⟩ := up40 wf
  obtain ⟨i0, hi, hz0, hz1, hz2⟩ := info_parts Tryz.infoInt
  have hcap := wf.cap
  have h0 := hD.nodesCell
  have hlt := hD.lt
  have HD := hid hD
  have HW := hid wf
  have HU := hid u
  clear hD wf u
  go_enter Tryz.func153, Tryz.ntmps153
  go_wp2
  go_loopw [5, 6] (fun pv nv wr => PathInv s h n k w pv nv wr) (fun _ nv _ => upMeas h 40 (intOf nv))
  case atStart =>
    refine ⟨n, [], rfl, ?_, ?_, ?_, hn, by simp, fun t L hw => by simpa using hw⟩
    · have := World.ownsRow_lit (base := w.heap.size + 1) (e := 3) (size := 1) (w.alloc (.cells #[.int .i64 (n : Int), .int .i64 (k : Int)] 37)) #[.int .i64 (k : Int)] 1 (by simp) (by decide) rfl
      simpa [intsV] using this
    · exact ((Below.refl _ w).alloc (Nat.le_refl _) _).alloc (by simp) _
    · simp
  case round =>
    obtain ⟨c, l, rfl, hrow, hb, hsz, hc, hlen, hway⟩ := hrel
    obtain ⟨x, hx⟩ : ∃ x, s[c]? = some x := ⟨_, List.getElem?_eq_getElem hc⟩
    have hD1 := HD.out.below hb
    have g0 := hD1.nodesCell
    obtain ⟨r, hr, ho, c0, c1, c2, c3⟩ := hD1.look hx
    have hl1 := hD1.lt
    have hh40 := HU.out.le c
    clear c1 c2 c3 hr ho
    by_cases hp : 0 ≤ x.p
    · obtain ⟨j, m, y, hj, hy, hm, hno, hyl⟩ := HW.out.place hx hp
      have CI := hid (tindex_at hD1 c j m x y hx hj hy hm hno (by unfold lots; omega) (by unfold lots; omega))
      have hup := (HU.out.par c x hx hp).2
      have hjl := (List.getElem?_eq_some_iff.1 hy).1
      have hum := upMeas_lt HU.out hx
      rw [hj] at c0 hup hum
      have HROW := hid hrow
      have HB := hid hb
      have HD1 := hid hD1
      have HWAY := hid (And.intro hway (And.intro hy hm))
      have HUM := hid hum
      have HXX := hid hx
      have HJ := hid hj
      clear hrow hb hD1 hway hx hy hm hno hum
      go_wp2_with (first
        | (go_at_call 106; refine CI.out.mono ?_; rintro e w1 ⟨rfl, q, rfl⟩
           have e0 := (cell_drewN _ q _).trans g0
           have e1 := (cell_drewN _ q _).trans c0)
        | (at_builtin
           go_must (have HS : Hid (SrcOk ((wr.drewN q).alloc (.cells #[.int .i64 (m : Int)] 3)) 1 (.slice (some ⟨wr.heap.size, 0, none⟩) 1 1) 1 [.int .i64 (m : Int)]) := .inr ⟨_, _, rfl, rfl, cell_one_new (wr.drewN q) _ _, by simp [Value.oneCell']⟩)
           have hr1 : (wr.drewN q).ownsRow (w.heap.size + 1) 3 1 u5 (l.length + 1) (intsV (k :: l.reverse)) := HROW.out
           refine wpList_append_any _ rfl (.tmp 29) (.tmp 33) 24 rfl (w.heap.size + 1) 3 i0 (.int .i64 0) 1 8 Tryz.underlying24 hi hz0 hz1 hz2 rfl (by decide) _ (l.length + 1) _ rfl (hr1.alloc _) _ 1 _ rfl HS.out (by unfold maxLen; omega) (by omega) (by simp; omega) ?_
           intro v2 w2 ho2 hb2
           have hB2 : Below w.heap.size w w2 := HB.out.trans (((below_draw wr q).alloc (Nat.le_refl _) _ |>.mono HB.out.size).trans (hb2.mono (by omega)))
           have f0 := (hB2.cell (p := ⟨bf, 0, none⟩) hlt.1).trans h0
           have f1 := hb2.cell (p := ⟨bn, c * 4, none⟩)
           have HO2 := hid ho2
           have HB2 := hid (And.intro hB2 hb2.size)
           have hD2 := HD.out.below hB2
           obtain ⟨r2, hr2, ho3, k0, -, -, -⟩ := hD2.look HXX.out
           rw [HJ.out] at k0
           clear ho2 hb2 hB2 f1 hr2 ho3 hD2 hr1))
      go_roundw
      case rel =>
        refine ⟨j, m :: l, rfl, ?_, HB2.out.1, ?_, hjl, ?_, fun t L hw => ?_⟩
        · have := HO2.out
          simpa [intsV] using this
        · have := HB2.out.2; simp at this; omega
        · simp at hup ⊢; omega
        · have := HWAY.out.1 t (L ++ [m]) (Way.down hw HWAY.out.2.1 HWAY.out.2.2)
          simpa using this
      case measure => exact HUM.out
    · have hp1 : x.p = -1 := by
        rcases HW.out.par c x hx with e | ⟨q, y, e, _⟩
        · exact e
        · omega
      rw [hp1] at c0
      obtain ⟨g, cp, cur, hv, hh, hn2, hcm, hcs, ht, hcell, hfr⟩ := row_ints (ks := k :: l.reverse) (by simpa using ownsRow_zero hrow) (by simp)
      have hg : w.heap.size + 1 ≤ g := by rw [hv] at hrow; exact (hrow.lt g rfl).1
      have CR := hid (Tryz.slices_Reverse_int_cells g 0 (l.length + 1) cp ((k :: l.reverse).map Int.ofNat) wr (by simp) (by omega) hcell (fun j hj => hfr j (by simpa using hj)))
      have hv' : u5 = .slice (some ⟨g, 0, none⟩) (l.length + 1) cp := by simpa using hv
      have HF := hid (And.intro hcell hfr)
      have hn3 : l.length + 1 ≤ cur.size := by rw [hcs]; simpa using hn2
      have HB := hid hb
      have HH := hid hh
      have HWAY := hid (hway c [] Way.top)
      have HX := hid hx
      subst hv'
      clear hrow hb hcell hfr hh ht hway hx hv
      have hvals : (((k :: l.reverse).map Int.ofNat).take (l.length + 1)).reverse.map (Value.int .i64) = intsV (l ++ [k]) := by
        rw [List.take_of_length_le (by simp)]; simp [intsV]
      rw [hvals] at CR
      clear hvals
      go_wp2_with (go_at_call 181; refine CR.out.mono ?_; rintro e w3 ⟨rfl, q, hw3⟩
                   have hk0 : Keeps (fun b => b = g) wr (wr.drewN q) := ⟨rfl, rfl, rfl, Nat.le_refl _, fun _ _ _ => rfl⟩
                   have hK : Keeps (fun b => b = g) wr w3 := by rw [hw3]; exact keeps_setCells g _ 0 _ hk0 rfl
                   obtain ⟨cur', k1, k2, k3⟩ := heap_setCells g 3 (intsV (l ++ [k])) 0 (wr.drewN q) cur HH.out (by rw [intsV_length]; simp; omega)
                   rw [← hw3] at k1
                   have HK := hid (And.intro hK (And.intro k1 k3))
                   clear hw3 hK k1 k3 k2 hk0)
      go_ret
      obtain ⟨hK, k1, k3⟩ := HK.out
      have hz := HB.out.size
      have hz2 := hK.size
      refine ⟨c, l, g, cp, by simp, by simpa using HWAY.out, way_top HW.out (by simpa using HWAY.out) HX.out hp1, by omega, by omega, heap_lt k1, fun j x hx => ?_, ?_⟩
      · rw [cell_of_heap k1 j, ← Array.getElem?_toList, k3]
        simp only [List.take_zero, List.nil_append]
        have hj : j < (intsV (l ++ [k])).length := by rw [intsV_length]; exact (List.getElem?_eq_some_iff.1 hx).1
        rw [List.getElem?_append_left hj]
        simp only [intsV, List.getElem?_map, hx]
        rfl
      · exact HB.out.trans ⟨hK.os, hK.tape, hK.output, hK.size, fun b hb => hK.block b (by omega) (by omega)⟩
end
end Go.Proofs.YtabogkonklplcaaGreatDoor

namespace Go.Proofs.YtabogkonklplcaaGreatDoor
open Go.RowKit Go.Lib
set_option linter.unusedSimpArgs false
set_option linter.unusedVariables false
theorem scmp_ways (l l2 : List Nat) (k k2 g1 c1 g2 c2 : Nat) (w : World) (h1 : ∀ (j x : Nat), (l ++ [k])[j]? = some x → w.cell? ⟨g1, j, none⟩ = some (.int .i64 x)) (h2 : ∀ (j x : Nat), (l2 ++ [k2])[j]? = some x → w.cell? ⟨g2, j, none⟩ = some (.int .i64 x)) (hl : l.length ≤ 40) (hm : l2.length ≤ 40) :
    Calls Tryz.prog 152 #[.slice (some ⟨g1, 0, none⟩) (l.length + 1) c1, .slice (some ⟨g2, 0, none⟩) (l2.length + 1) c2] w fun e w' => e = .returned (.int .i64 (lexC (l ++ [k]) (l2 ++ [k2]))) ∧ w' = w := by
  have h := scmp_any (l ++ [k]) (l2 ++ [k2]) g1 c1 g2 c2 w h1 h2 (by simp; unfold lots; omega) (by simp; unfold lots; omega)
  rw [show (l ++ [k]).length = l.length + 1 by simp, show (l2 ++ [k2]).length = l2.length + 1 by simp] at h
  exact h
theorem ttop_at {w : World} {F : Nat → Prop} {bf bn cap : Nat} {pn : List PN} {s : List Nd} (wf : WF s) (hD : PForAt w F bf bn cap pn s) {n t : Nat} (ht : IsTop s n t) (hn : n < s.length) :
    Calls Tryz.prog 99 #[ptr bf, .int .i64 n] w fun e w' => e = .returned (.int .i64 t) ∧ w' = w := by
  refine (ttop_any wf hD n hn).mono ?_
  rintro e w' ⟨⟨t', rfl, ht'⟩, rfl⟩
  exact ⟨by rw [ht.one ht'], rfl⟩
section
variable {w : World} {F : Nat → Prop} {bf : Nat} {s : List Nd}
set_option maxHeartbeats 1000000 in
theorem tcompare_a (bf : Nat) (a0 a1 b0 b1 : Int) (u : Value)
    (hA : ∀ W, Below w.heap.size w W → Calls Tryz.prog 98 #[ptr bf, .agg #[.int .i64 a0, .int .i64 a1]] W fun e w' => e = .returned (.iface 145 u) ∧ Below W.heap.size W w') :
    Calls Tryz.prog 62 #[ptr bf, .agg #[.int .i64 a0, .int .i64 a1], .agg #[.int .i64 b0, .int .i64 b1]] w fun e w' => e = .returned (.tuple #[.int .i64 0, .iface 145 u]) ∧ Below w.heap.size w w' := by
  have CA := hid (hA _ (ptwo_below w a0 a1 b0 b1))
  have hz := (ptwo_below w a0 a1 b0 b1).size
  have HT := hid (ptwo_below w a0 a1 b0 b1)
  clear hA
  go_enter Tryz.func62, Tryz.ntmps62
  go_wp2_with (go_at_call 98; refine CA.out.mono ?_; rintro e w1 ⟨rfl, hb1⟩)
  go_ret2
  exact ⟨rfl, HT.out.trans (hb1.mono HT.out.size)⟩
set_option maxRecDepth 20000 in
set_option maxHeartbeats 1000000 in
theorem tcompare_roots (wf : WF s) (hD : PFor w F bf s) (n k n2 k2 : Nat) (tf : Nat → Nat) (htf : ∀ m, m < s.length → IsTop s m (tf m)) (hn : n < s.length) (hn2 : n2 < s.length) (hne : tf n ≠ tf n2)
    (hA : ∀ W, Below w.heap.size w W → Calls Tryz.prog 98 #[ptr bf, .agg #[.int .i64 (n : Int), .int .i64 (k : Int)]] W fun e w' => e = .returned .nilIface ∧ Below W.heap.size W w')
    (hB : ∀ W, Below w.heap.size w W → Calls Tryz.prog 98 #[ptr bf, .agg #[.int .i64 (n2 : Int), .int .i64 (k2 : Int)]] W fun e w' => e = .returned .nilIface ∧ Below W.heap.size W w') :
    Calls Tryz.prog 62 #[ptr bf, .agg #[.int .i64 (n : Int), .int .i64 (k : Int)], .agg #[.int .i64 (n2 : Int), .int .i64 (k2 : Int)]] w fun e w' => e = .returned (.tuple #[.int .i64 0, refusalV n2 9]) ∧ Below w.heap.size w w' := by
  obtain ⟨bn, cap, pn, hD⟩ := hD
  have CA := hid (hA _ (ptwo_below w n k n2 k2))
  have CB := hid hB
  have HT := hid (ptwo_below w n k n2 k2)
  have CT := hid (fun W (hb : Below w.heap.size w W) m (hm : m < s.length) q => ttop_at (w := W.drewN q) wf (hD.below (below_drewN hb q)) (htf m hm) hm)
  have hneI : ¬ (tf n : Int) = (tf n2 : Int) := fun e => hne (by omega)
  clear hA hB hD wf htf
  go_enter Tryz.func62, Tryz.ntmps62
  go_wp2_with (first
    | (go_at_call 98; refine CA.out.mono ?_; clear CA; rintro e w1 ⟨rfl, hb1⟩
       obtain ⟨q1, q2⟩ := ptwo_cells hb1
       have p0 : w1.cell? ⟨w.heap.size, 0, none⟩ = some (.int .i64 (n : Int)) := cell_of_heap q1 0
       have p1 : w1.cell? ⟨w.heap.size, 1, none⟩ = some (.int .i64 (k : Int)) := cell_of_heap q1 1
       have p2 : w1.cell? ⟨w.heap.size + 1, 0, none⟩ = some (.int .i64 (n2 : Int)) := cell_of_heap q2 0
       have p3 : w1.cell? ⟨w.heap.size + 1, 1, none⟩ = some (.int .i64 (k2 : Int)) := cell_of_heap q2 1
       have HB1 := hid (HT.out.trans (hb1.mono HT.out.size))
       have H1 := hid hb1
       clear hb1 q1 q2)
    | (go_at_call 98; refine (CB.out _ HB1.out).mono ?_; clear CB; rintro e w2 ⟨rfl, hb2⟩
       obtain ⟨q1, q2⟩ := ptwo_cells (H1.out.trans (hb2.mono H1.out.size))
       have r0 : w2.cell? ⟨w.heap.size, 0, none⟩ = some (.int .i64 (n : Int)) := cell_of_heap q1 0
       have r1 : w2.cell? ⟨w.heap.size, 1, none⟩ = some (.int .i64 (k : Int)) := cell_of_heap q1 1
       have r2 : w2.cell? ⟨w.heap.size + 1, 0, none⟩ = some (.int .i64 (n2 : Int)) := cell_of_heap q2 0
       have r3 : w2.cell? ⟨w.heap.size + 1, 1, none⟩ = some (.int .i64 (k2 : Int)) := cell_of_heap q2 1
       have HB2 := hid (HB1.out.trans (hb2.mono HB1.out.size))
       clear hb2 q1 q2 p0 p1 p2 p3 HB1))
  go_quiet ((go_at_call 99; exact Calls.quiet_of_same (CT.out w2 HB2.out _ (by first | exact hn | exact hn2) _)))
  have hbne : ((tf n : Int) != (tf n2 : Int)) = true := by simpa using hneI
  rw [hbne]
  go_wp2
  go_region
  go_wp2
  go_ret2
  exact ⟨rfl, below_drewN HB2.out _⟩
set_option maxRecDepth 20000 in
set_option maxHeartbeats 1000000 in
theorem torder_any {bn cap : Nat} {pn : List PN} (wf : WF s) (hD : PForAt w F bf bn cap pn s) (n k n2 k2 : Nat) (hn : n < s.length) (hn2 : n2 < s.length) :
    Calls Tryz.prog 100 #[ptr bf, .agg #[.int .i64 (n : Int), .int .i64 (k : Int)], .agg #[.int .i64 (n2 : Int), .int .i64 (k2 : Int)]] w fun e w' => ∃ t t2 l l2, Way s t n l ∧ IsTop s n t ∧ Way s t2 n2 l2 ∧ IsTop s n2 t2 ∧ e = .returned (.int .i64 (lexC (l ++ [k]) (l2 ++ [k2]))) ∧ Below w.heap.size w w' := by
  have HB2 : Hid (Below w.heap.size w ((w.alloc (.cells #[.int .i64 (n : Int), .int .i64 (k : Int)] 37)).alloc (.cells #[.int .i64 (n2 : Int), .int .i64 (k2 : Int)] 37))) := ptwo_below w n k n2 k2
  obtain ⟨q1, q2⟩ := ptwo_cells (Below.refl (ptwo w n k n2 k2).heap.size (ptwo w n k n2 k2))
  have q1' : ((w.alloc (.cells #[.int .i64 (n : Int), .int .i64 (k : Int)] 37)).alloc (.cells #[.int .i64 (n2 : Int), .int .i64 (k2 : Int)] 37)).heap[w.heap.size]? = _ := q1
  have q2' : ((w.alloc (.cells #[.int .i64 (n : Int), .int .i64 (k : Int)] 37)).alloc (.cells #[.int .i64 (n2 : Int), .int .i64 (k2 : Int)] 37)).heap[w.heap.size + 1]? = _ := q2
  clear q1 q2
  obtain ⟨w2, hw2⟩ : ∃ w2, (w.alloc (.cells #[.int .i64 (n : Int), .int .i64 (k : Int)] 37)).alloc (.cells #[.int .i64 (n2 : Int), .int .i64 (k2 : Int)] 37) = w2 := ⟨_, rfl⟩
  rw [hw2] at HB2 q1' q2'
  have r0 : w2.cell? ⟨w.heap.size, 0, none⟩ = some (.int .i64 (n : Int)) := cell_of_heap q1' 0
  have r1 : w2.cell? ⟨w.heap.size, 1, none⟩ = some (.int .i64 (k : Int)) := cell_of_heap q1' 1
  have r2 : w2.cell? ⟨w.heap.size + 1, 0, none⟩ = some (.int .i64 (n2 : Int)) := cell_of_heap q2' 0
  have r3 : w2.cell? ⟨w.heap.size + 1, 1, none⟩ = some (.int .i64 (k2 : Int)) := cell_of_heap q2' 1
  have CP := hid (fun W (hb : Below w.heap.size w W) m (hm : m < s.length) kk => tpath_any (w := W) wf (hD.below hb) m kk hm)
  have RC := hid (And.intro r0 (And.intro r1 (And.intro r2 r3)))
  have hz2 := HB2.out.size
  have hbx : w.heap.size + 1 < w2.heap.size := World.block_lt_of_cell? w2 _ r2
  have HW2 := hid hw2
  clear hD wf q1' q2' hw2
  go_enter Tryz.func100, Tryz.ntmps100
  go_wp2
  rw [HW2.out]
  clear HW2
  go_region_held3 (fun w' => w'.cell? ⟨w.heap.size, 0, none⟩ = some (.int .i64 (n : Int)) ∧ w'.cell? ⟨w.heap.size, 1, none⟩ = some (.int .i64 (k : Int)) ∧ w'.cell? ⟨w.heap.size + 1, 0, none⟩ = some (.int .i64 (n2 : Int)) ∧ w'.cell? ⟨w.heap.size + 1, 1, none⟩ = some (.int .i64 (k2 : Int))) (first | exact KEEP2.out | exact KEEP1.out | go_keep) (first
    | (go_at_call 152
       refine (scmp_ways l l2 k k2 g3 c3 g4 c4 _ HC4.out HC5.out len3 len4).mono ?_
       rintro e w5 ⟨rfl, hw5⟩
       replace hw5 := hw5.symm
       subst hw5)
    | (go_at_call 153
       have hg := HC3.out
       refine (CP.out _ (by first | exact HB3.out | exact below_drewN HB3.out _ | exact HB3.out.drew) n2 hn2 k2).mono ?_
       rintro e w4 ⟨t4, l2, g4, c4, rfl, way4, top4, len4, hg5, hg6, hcells4, hb4⟩
       have HC4 : Hid (∀ (j x : Nat), (l ++ [k])[j]? = some x → w4.cell? ⟨g3, j, none⟩ = some (.int .i64 (x : Int))) := fun j x hx => (hb4.cell (p := ⟨g3, j, none⟩) (by first | exact hg4 | (simp; exact hg4))).trans (HC3.out j x hx)
       have HC5 := hid hcells4
       have HB4 : Hid (Below w.heap.size w w4) := (by first | exact HB3.out.trans (hb4.mono HB3.out.size) | exact (below_drewN HB3.out _).trans (hb4.mono HB3.out.size))
       have KEEP2 : Hid (w4.cell? ⟨w.heap.size, 0, none⟩ = some (.int .i64 (n : Int)) ∧ w4.cell? ⟨w.heap.size, 1, none⟩ = some (.int .i64 (k : Int)) ∧ w4.cell? ⟨w.heap.size + 1, 0, none⟩ = some (.int .i64 (n2 : Int)) ∧ w4.cell? ⟨w.heap.size + 1, 1, none⟩ = some (.int .i64 (k2 : Int))) :=
         ⟨(hb4.cell (p := ⟨w.heap.size, 0, none⟩) (by simp; omega)).trans KEEP1.out.1, (hb4.cell (p := ⟨w.heap.size, 1, none⟩) (by simp; omega)).trans KEEP1.out.2.1, (hb4.cell (p := ⟨w.heap.size + 1, 0, none⟩) (by simp; omega)).trans KEEP1.out.2.2.1, (hb4.cell (p := ⟨w.heap.size + 1, 1, none⟩) (by simp; omega)).trans KEEP1.out.2.2.2⟩
       have W4 := hid (And.intro way4 top4)
       clear way4 top4 hcells4 hb4 hg)
    | (go_at_call 153
       refine (CP.out _ (by first | exact below_drewN HB2.out _ | exact HB2.out | exact HB2.out.drew) n hn k).mono ?_
       rintro e w3 ⟨t3, l, g3, c3, rfl, way3, top3, len3, hg3, hg4, hcells3, hb3⟩
       have HC3 := hid hcells3
       have HB3 : Hid (Below w.heap.size w w3) := (below_drewN HB2.out _).trans (hb3.mono HB2.out.size)
       have hz3 : w2.heap.size ≤ w3.heap.size := hb3.size
       have KEEP1 : Hid (w3.cell? ⟨w.heap.size, 0, none⟩ = some (.int .i64 (n : Int)) ∧ w3.cell? ⟨w.heap.size, 1, none⟩ = some (.int .i64 (k : Int)) ∧ w3.cell? ⟨w.heap.size + 1, 0, none⟩ = some (.int .i64 (n2 : Int)) ∧ w3.cell? ⟨w.heap.size + 1, 1, none⟩ = some (.int .i64 (k2 : Int))) :=
         ⟨(hb3.cell (p := ⟨w.heap.size, 0, none⟩) (by show w.heap.size < w2.heap.size; omega)).trans RC.out.1, (hb3.cell (p := ⟨w.heap.size, 1, none⟩) (by show w.heap.size < w2.heap.size; omega)).trans RC.out.2.1, (hb3.cell (p := ⟨w.heap.size + 1, 0, none⟩) (by show w.heap.size + 1 < w2.heap.size; omega)).trans RC.out.2.2.1, (hb3.cell (p := ⟨w.heap.size + 1, 1, none⟩) (by show w.heap.size + 1 < w2.heap.size; omega)).trans RC.out.2.2.2⟩
       have W3 := hid (And.intro way3 top3)
       clear way3 top3 hcells3 hb3))
  go_wp2
  go_ret
  obtain ⟨way3, top3⟩ := W3.out
  obtain ⟨way4, top4⟩ := W4.out
  exact ⟨_, _, l, l2, way3, top3, way4, top4, rfl, HB4.out⟩
set_option maxRecDepth 20000 in
set_option maxHeartbeats 1000000 in
theorem tcompare_one (wf : WF s) (hD : PFor w F bf s) (n k n2 k2 : Nat) (tf : Nat → Nat) (htf : ∀ m, m < s.length → IsTop s m (tf m)) (hn : n < s.length) (hn2 : n2 < s.length) (hee : tf n = tf n2)
    (hA : ∀ W, Below w.heap.size w W → Calls Tryz.prog 98 #[ptr bf, .agg #[.int .i64 (n : Int), .int .i64 (k : Int)]] W fun e w' => e = .returned .nilIface ∧ Below W.heap.size W w')
    (hB : ∀ W, Below w.heap.size w W → Calls Tryz.prog 98 #[ptr bf, .agg #[.int .i64 (n2 : Int), .int .i64 (k2 : Int)]] W fun e w' => e = .returned .nilIface ∧ Below W.heap.size W w') :
    Calls Tryz.prog 62 #[ptr bf, .agg #[.int .i64 (n : Int), .int .i64 (k : Int)], .agg #[.int .i64 (n2 : Int), .int .i64 (k2 : Int)]] w fun e w' => ∃ l l2, Way s (tf n) n l ∧ Way s (tf n) n2 l2 ∧ e = .returned (.tuple #[.int .i64 (lexC (l ++ [k]) (l2 ++ [k2])), .nilIface]) ∧ Below w.heap.size w w' := by
  obtain ⟨bn, cap, pn, hD⟩ := hD
  have CA := hid (hA _ (ptwo_below w n k n2 k2))
  have CB := hid hB
  have HT := hid (ptwo_below w n k n2 k2)
  have CT := hid (fun W (hb : Below w.heap.size w W) m (hm : m < s.length) q => ttop_at (w := W.drewN q) wf (hD.below (below_drewN hb q)) (htf m hm) hm)
  have CO := hid (fun W (hb : Below w.heap.size w W) => torder_any (w := W) wf (hD.below hb) n k n2 k2 hn hn2)
  have HTF := hid htf
  clear hA hB hD wf htf
  go_enter Tryz.func62, Tryz.ntmps62
  go_wp2_with (first
    | (go_at_call 98; refine CA.out.mono ?_; clear CA; rintro e w1 ⟨rfl, hb1⟩
       obtain ⟨q1, q2⟩ := ptwo_cells hb1
       have p0 : w1.cell? ⟨w.heap.size, 0, none⟩ = some (.int .i64 (n : Int)) := cell_of_heap q1 0
       have p1 : w1.cell? ⟨w.heap.size, 1, none⟩ = some (.int .i64 (k : Int)) := cell_of_heap q1 1
       have p2 : w1.cell? ⟨w.heap.size + 1, 0, none⟩ = some (.int .i64 (n2 : Int)) := cell_of_heap q2 0
       have p3 : w1.cell? ⟨w.heap.size + 1, 1, none⟩ = some (.int .i64 (k2 : Int)) := cell_of_heap q2 1
       have HB1 := hid (HT.out.trans (hb1.mono HT.out.size))
       have H1 := hid hb1
       clear hb1 q1 q2)
    | (go_at_call 98; refine (CB.out _ HB1.out).mono ?_; clear CB; rintro e w2 ⟨rfl, hb2⟩
       obtain ⟨q1, q2⟩ := ptwo_cells (H1.out.trans (hb2.mono H1.out.size))
       have r0 : w2.cell? ⟨w.heap.size, 0, none⟩ = some (.int .i64 (n : Int)) := cell_of_heap q1 0
       have r1 : w2.cell? ⟨w.heap.size, 1, none⟩ = some (.int .i64 (k : Int)) := cell_of_heap q1 1
       have r2 : w2.cell? ⟨w.heap.size + 1, 0, none⟩ = some (.int .i64 (n2 : Int)) := cell_of_heap q2 0
       have r3 : w2.cell? ⟨w.heap.size + 1, 1, none⟩ = some (.int .i64 (k2 : Int)) := cell_of_heap q2 1
       have HB2 := hid (HB1.out.trans (hb2.mono HB1.out.size))
       clear hb2 q1 q2 p0 p1 p2 p3 HB1))
  go_quiet ((go_at_call 99; exact Calls.quiet_of_same (CT.out w2 HB2.out _ (by first | exact hn | exact hn2) _)))
  go_wp2_with (go_at_call 100; refine (CO.out _ (below_drewN HB2.out _)).mono ?_; rintro e w3 ⟨t3, t4, l, l2, way3, top3, way4, top4, rfl, hb3⟩
               have W3 := hid (And.intro way3 top3)
               have W4 := hid (And.intro way4 top4)
               clear way3 top3 way4 top4)
  go_ret2
  obtain ⟨way3, top3⟩ := W3.out
  obtain ⟨way4, top4⟩ := W4.out
  obtain rfl := top3.one (HTF.out n hn)
  obtain rfl := top4.one (HTF.out n2 hn2)
  refine ⟨l, l2, way3, ?_, rfl, (below_drewN HB2.out _).trans (hb3.mono (below_drewN HB2.out _).size)⟩
  rw [hee]; exact way4
end
end Go.Proofs.YtabogkonklplcaaGreatDoor
