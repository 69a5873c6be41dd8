import Derived.Test.YtabogkonklplcaaGreatDoorC49
import Derived.Deep.QuietTactic
import Derived.BigQuiet

/- marginref's Compare: the second place's fault. -/
namespace Go.Proofs.YtabogkonklplcaaGreatDoor
open Go.RowKit
set_option linter.unusedSimpArgs false
set_option linter.unusedVariables false

section
variable {w : World} {F : Nat → Prop} {bd bn cap : Nat} {rn : List RN} {rv : Value} {s : List Nd} {rs : List Sp}

set_option maxRecDepth 20000 in
set_option maxHeartbeats 1000000 in
theorem compare_b (hD : RDocAt w F bd bn cap rn rv s rs) (a0 a1 b0 b1 g0 g1 : Int) (hf : placeFault s a0 a1 = (0, 0)) (hg : placeFault s b0 b1 = (g0, g1)) (h1 : g1 ≠ 0) :
    Calls Tryz.prog 80 #[.pointer (some ⟨bd, 0, none⟩), .agg #[.int .i64 a0, .int .i64 a1], .agg #[.int .i64 b0, .int .i64 b1]] w fun e w' => e = .returned (.tuple #[.int .i64 0, rfltV g0 g1]) ∧ Below w.heap.size w w' := by
  have CF := hid (placeFits_any (hD.below (three_below w a0 a1 b0 b1)) a0 a1)
  rw [hf] at CF
  have CG := hid (fun w' (hb : Below w.heap.size w w') => placeFits_any (hD.below hb) b0 b1)
  rw [hg] at CG
  have h1b : (g1 == 0) = false := by simpa using h1
  clear hD
  go_enter Tryz.func80, Tryz.ntmps80
  go_wp2_with (first
    | (go_at_call 127; refine (CG.out w2 HB2.out).mono ?_; rintro e w3 ⟨rfl, hb3⟩
       have hc3 := HC2.out.below hb3
       obtain ⟨-, -, -, ⟨cf0, cf1⟩⟩ := hc3.cells
       obtain ⟨-, ⟨ff0, ff1⟩⟩ := hc3.frozen
       have HC3 := hid hc3
       have HB3 := hid (HB2.out.trans (hb3.mono HB2.out.size))
       clear hc3 hb3)
    | (go_at_call 127; refine CF.out.mono ?_; rintro e w1 ⟨rfl, hb1⟩
       have HB1 := hid hb1
       clear hb1)
    | (go_at_call 124; have hc4 := HC3.out.put g0 g1; refine (fine_any g0 g1 _).mono ?_; rintro e w4 ⟨rfl, hb4⟩
       have hc5 := hc4.below hb4
       obtain ⟨-, -, ⟨cz0, cz1⟩, ⟨cg0, cg1⟩⟩ := hc5.cells
       obtain ⟨⟨fz0, fz1⟩, -⟩ := hc5.frozen
       have HC5 := hid hc5
       have HB5 := hid (((HB3.out.setCell (p := ⟨w1.heap.size, 0, none⟩) (by have := HC3.out.gt; show w.heap.size ≤ w1.heap.size; omega) (.int .i64 g0)).setCell (p := ⟨w1.heap.size, 1, none⟩) (by have := HC3.out.gt; show w.heap.size ≤ w1.heap.size; omega) (.int .i64 g1)).trans (hb4.mono (by have := HB3.out.size; simpa using this)))
       clear hc4 hc5 hb4
       rw [h1b])
    | (go_at_call 124; refine (fine_any 0 0 _).mono ?_; rintro e w2 ⟨rfl, hb2⟩
       obtain ⟨hc2, hB2⟩ := Cmp.first HB1.out hb2
       obtain ⟨⟨ca0, ca1⟩, ⟨cb0, cb1⟩, -, -⟩ := hc2.cells
       have HC2 := hid hc2
       have HB2 := hid hB2
       clear hb2 hc2 hB2))
  go_region
  all_goals
    go_wp2
    refine bodyPost_ret (v := .tuple #[.int .i64 0, rfltV g0 g1]) (by simp [results, Tryz.results80, go_sem, *]) rfl ?_
    exact ⟨rfl, ((HB5.out.setCell (p := ⟨w.heap.size + 1 + 1, 0, none⟩) (by show w.heap.size ≤ w.heap.size + 1 + 1; omega) _).setCell (p := ⟨w.heap.size + 1 + 1, 1, none⟩) (by show w.heap.size ≤ w.heap.size + 1 + 1; omega) _).drew⟩
end

end Go.Proofs.YtabogkonklplcaaGreatDoor

/- The top of a tree: there is one, and one alone; marginref's top and ahead by it. -/
namespace Go.Proofs.YtabogkonklplcaaGreatDoor
open Go.RowKit
set_option linter.unusedSimpArgs false
set_option linter.unusedVariables false

theorem climb_neg {s : List Nd} {j n : Nat} (h : climb s j n < 0) : ∀ i, climb s (j + i) n < 0 := by
  intro i
  induction i with
  | zero => exact h
  | succ i ih =>
    show climb s (j + i + 1) n < 0
    simp [climb, ih]

theorem IsTop.one {s : List Nd} {n t t' : Nat} (h : IsTop s n t) (h' : IsTop s n t') : t = t' := by
  have key : ∀ {a b : Nat} {i j : Nat} {x : Nd}, climb s i n = (a : Int) → s[a]? = some x → x.p = -1 → climb s j n = (b : Int) → ¬ i < j := by
    intro a b i j x h1 h2 h3 h4 hlt
    have e : climb s (i + 1) n < 0 := by rw [climb_step h1]; simp [parOf, h2, h3]
    have := climb_neg e (j - (i + 1))
    rw [show i + 1 + (j - (i + 1)) = j by omega, h4] at this
    omega
  obtain ⟨⟨i, hi⟩, x, hx, hp⟩ := h
  obtain ⟨⟨j, hj⟩, y, hy, hq⟩ := h'
  have h1 := key hi hx hp hj
  have h2 := key hj hy hq hi
  obtain rfl : i = j := by omega
  rw [hi] at hj
  omega

theorem IsTop.up {s : List Nd} {n q t : Nat} {x : Nd} (hx : s[n]? = some x) (hp : x.p = (q : Int)) (h : IsTop s q t) : IsTop s n t := by
  obtain ⟨⟨m, hm⟩, r⟩ := h
  have e : climb s 1 n = (q : Int) := by
    show climb s (0 + 1) n = _
    rw [climb_step (show climb s 0 n = (n : Int) from rfl)]
    simp [parOf, hx, hp]
  exact ⟨⟨1 + m, by rw [climb_add e, hm]⟩, r⟩

theorem top_there {s : List Nd} (wf : WF s) : ∀ n, n < s.length → ∃ t, IsTop s n t := by
  obtain ⟨h, B, u⟩ := wf.up
  have key : ∀ k n, n < s.length → B - h n < k → ∃ t, IsTop s n t := by
    intro k
    induction k with
    | zero => intro n _ hk; omega
    | succ k ih =>
      intro n hn hk
      have hx : s[n]? = some s[n] := List.getElem?_eq_getElem hn
      rcases wf.par n _ hx with e | ⟨q, y, e, hy, _⟩
      · exact ⟨n, ⟨0, rfl⟩, _, hx, e⟩
      · have hup := u.par n _ hx (by omega)
        rw [e] at hup
        simp at hup
        have := u.le q
        obtain ⟨t, ht⟩ := ih q (List.getElem?_eq_some_iff.1 hy).1 (by omega)
        exact ⟨t, ht.up hx e⟩
  intro n hn
  exact key (B - h n + 1) n hn (by omega)

section
variable {w : World} {F : Nat → Prop} {bd bn cap : Nat} {rn : List RN} {rv : Value} {s : List Nd} {rs : List Sp}
theorem top_at (wf : WF s) (hD : RDocAt w F bd bn cap rn rv s rs) {n t : Nat} (ht : IsTop s n t) (hn : n < s.length) :
    Calls Tryz.prog 128 #[.pointer (some ⟨bd, 0, none⟩), .int .i64 n] w fun e w' => e = .returned (.int .i64 t) ∧ w' = w := by
  refine (top_any wf hD n hn).mono ?_
  rintro e w' ⟨⟨t', rfl, ht'⟩, rfl⟩
  exact ⟨by rw [ht.one ht'], rfl⟩

theorem IsWhere.one {l : List (Nat × Nat)} {p : Nat × Nat} {q q' : Int} (h : IsWhere l p q) (h' : IsWhere l p q') : q = q' := by
  have key : ∀ {i j : Nat}, l[i]? = some p → p ∉ l.take j → ¬ i < j := fun h1 h2 hlt => h2 (List.mem_of_getElem? (i := _) (by rw [List.getElem?_take, if_pos hlt]; exact h1))
  rcases h with ⟨i, rfl, hi, hi'⟩ | ⟨rfl, hn⟩ <;> rcases h' with ⟨j, rfl, hj, hj'⟩ | ⟨rfl, hn'⟩
  · have h1 := key hi hj'
    have h2 := key hj hi'
    omega
  · exact absurd (List.mem_of_getElem? hi) hn'
  · exact absurd (List.mem_of_getElem? hj) hn
  · rfl

theorem ahead_at (wf : WF s) {h : Nat → Nat} {B : Nat} (u : Up s h B) (hD : RDocAt w F bd bn cap rn rv s rs) {n k n2 k2 t : Nat} {qa qb : Int} (hn : n < s.length) (ht : IsTop s n t) (ha : IsWhere (plF s (B + 1) t) (n, k) qa) (hb : IsWhere (plF s (B + 1) t) (n2, k2) qb) :
    Calls Tryz.prog 129 #[.pointer (some ⟨bd, 0, none⟩), .agg #[.int .i64 n, .int .i64 k], .agg #[.int .i64 n2, .int .i64 k2]] w fun e w' => e = .returned (.bool (decide (qa < qb))) ∧ Below w.heap.size w w' := by
  refine (ahead_any wf u n k n2 k2 hn w hD).mono ?_
  rintro e w' ⟨⟨t', qa', qb', ht', ha', hb', rfl⟩, hB⟩
  obtain rfl := ht.one ht'
  exact ⟨by rw [ha.one ha', hb.one hb'], hB⟩
end

end Go.Proofs.YtabogkonklplcaaGreatDoor

/- marginref's Compare: two trees; one tree. -/
namespace Go.Proofs.YtabogkonklplcaaGreatDoor
open Go.RowKit
set_option linter.unusedSimpArgs false
set_option linter.unusedVariables false

section
variable {w : World} {F : Nat → Prop} {bd bn cap : Nat} {rn : List RN} {rv : Value} {s : List Nd} {rs : List Sp}

set_option maxRecDepth 20000 in
set_option maxHeartbeats 1000000 in
theorem compare_roots (wf : WF s) (hD : RDocAt w F bd bn cap rn rv s rs) (n k n2 k2 : Nat) (tf : Nat → Nat) (htf : ∀ m, m < s.length → IsTop s m (tf m)) (hn : n < s.length) (hn2 : n2 < s.length) (hf : placeFault s n k = (0, 0)) (hg : placeFault s n2 k2 = (0, 0)) (hne : tf n ≠ tf n2) :
    Calls Tryz.prog 80 #[.pointer (some ⟨bd, 0, none⟩), .agg #[.int .i64 n, .int .i64 k], .agg #[.int .i64 n2, .int .i64 k2]] w fun e w' => e = .returned (.tuple #[.int .i64 0, rfltV n2 9]) ∧ Below w.heap.size w w' := by
  have CF := hid (placeFits_any (hD.below (three_below w n k n2 k2)) n k)
  rw [hf] at CF
  have CG := hid (fun w' (hb : Below w.heap.size w w') => placeFits_any (hD.below hb) n2 k2)
  rw [hg] at CG
  have CT := hid (fun w' (hb : Below w.heap.size w w') m (hm : m < s.length) q => top_at (w := w'.drewN q) wf (hD.below (below_drewN hb q)) (htf m hm) hm)
  have hneI : ¬ (tf n : Int) = (tf n2 : Int) := fun e => hne (by omega)
  have hd : decide ((tf n : Int) = (tf n2 : Int)) = false := decide_eq_false hneI
  clear hD wf htf
  go_enter Tryz.func80, Tryz.ntmps80
  go_wp2_with (first
    | (go_at_call 127; refine (CG.out w2 HB2.out).mono ?_; rintro e w3 ⟨rfl, hb3⟩
       have hc3 := HC2.out.below hb3
       obtain ⟨-, -, -, ⟨cf0, cf1⟩⟩ := hc3.cells
       obtain ⟨-, ⟨ff0, ff1⟩⟩ := hc3.frozen
       have HC3 := hid hc3
       have HB3 := hid (HB2.out.trans (hb3.mono HB2.out.size))
       clear hc3 hb3)
    | (go_at_call 127; refine CF.out.mono ?_; rintro e w1 ⟨rfl, hb1⟩
       have HB1 := hid hb1
       clear hb1)
    | (go_at_call 124; have hc4 := HC3.out.put 0 0; refine (fine_any 0 0 _).mono ?_; rintro e w4 ⟨rfl, hb4⟩
       have hc5 := hc4.below hb4
       obtain ⟨⟨da0, da1⟩, ⟨db0, db1⟩, ⟨cz0, cz1⟩, ⟨cg0, cg1⟩⟩ := hc5.cells
       obtain ⟨⟨fz0, fz1⟩, -⟩ := hc5.frozen
       have HC5 := hid hc5
       have HB5 := hid (((HB3.out.setCell (p := ⟨w1.heap.size, 0, none⟩) (by have := HC3.out.gt; show w.heap.size ≤ w1.heap.size; omega) (.int .i64 0)).setCell (p := ⟨w1.heap.size, 1, none⟩) (by have := HC3.out.gt; show w.heap.size ≤ w1.heap.size; omega) (.int .i64 0)).trans (hb4.mono (by have := HB3.out.size; simpa using this)))
       clear hc4 hc5 hb4)
    | (go_at_call 124; refine (fine_any 0 0 _).mono ?_; rintro e w2 ⟨rfl, hb2⟩
       obtain ⟨hc2, hB2⟩ := Cmp.first HB1.out hb2
       obtain ⟨⟨ca0, ca1⟩, ⟨cb0, cb1⟩, -, -⟩ := hc2.cells
       have HC2 := hid hc2
       have HB2 := hid hB2
       clear hb2 hc2 hB2))
  go_quiet ((go_at_call 128; exact Calls.quiet_of_same (CT.out w4 HB5.out _ (by first | exact hn | exact hn2) _)))
  have hbne : ((tf n : Int) != (tf n2 : Int)) = true := by simpa using hneI
  rw [hbne]
  go_wp2_with (go_at_call 48; refine (no_any _ _ _).mono ?_; rintro e w5 ⟨rfl, h5⟩
               have hb5 : Below w4.heap.size w4 w5 := by rw [h5]; exact (below_drewN (Below.refl _ w4) nq).alloc (Nat.le_refl _) _
               have hc6 := HC5.out.below hb5
               obtain ⟨-, -, ⟨gz0, gz1⟩, -⟩ := hc6.cells
               obtain ⟨⟨gf0, gf1⟩, -⟩ := hc6.frozen
               have HB6 := hid (HB5.out.trans (hb5.mono HB5.out.size))
               clear h5 hb5 hc6)
  refine bodyPost_ret (v := .tuple #[.int .i64 0, rfltV n2 9]) (by simp [results, Tryz.results80, go_sem, *]) rfl ?_
  exact ⟨rfl, (HB6.out.setCell (p := ⟨w.heap.size + 1 + 1, 0, none⟩) (by show w.heap.size ≤ w.heap.size + 1 + 1; omega) _).setCell (p := ⟨w.heap.size + 1 + 1, 1, none⟩) (by show w.heap.size ≤ w.heap.size + 1 + 1; omega) _⟩
end

end Go.Proofs.YtabogkonklplcaaGreatDoor

/- marginref's Compare: one tree. -/
namespace Go.Proofs.YtabogkonklplcaaGreatDoor
open Go.RowKit
set_option linter.unusedSimpArgs false
set_option linter.unusedVariables false

/-- The order of two, said by two questions. -/
def cmpB : Bool → Bool → Int
  | true, _ => -1
  | false, true => 1
  | false, false => 0

section
variable {w : World} {F : Nat → Prop} {bd bn cap : Nat} {rn : List RN} {rv : Value} {s : List Nd} {rs : List Sp}

set_option maxRecDepth 20000 in
set_option maxHeartbeats 1000000 in
theorem compare_one (wf : WF s) {h : Nat → Nat} {B : Nat} (u : Up s h B) (hD : RDocAt w F bd bn cap rn rv s rs) (n k n2 k2 : Nat) (tf : Nat → Nat) (htf : ∀ m, m < s.length → IsTop s m (tf m)) (hn : n < s.length) (hn2 : n2 < s.length) (hf : placeFault s n k = (0, 0)) (hg : placeFault s n2 k2 = (0, 0)) (he : tf n = tf n2)
    (qa qb : Int) (ha : IsWhere (plF s (B + 1) (tf n)) (n, k) qa) (hb : IsWhere (plF s (B + 1) (tf n)) (n2, k2) qb) (x y : Bool) (hx : decide (qa < qb) = x) (hy : decide (qb < qa) = y) :
    Calls Tryz.prog 80 #[.pointer (some ⟨bd, 0, none⟩), .agg #[.int .i64 n, .int .i64 k], .agg #[.int .i64 n2, .int .i64 k2]] w fun e w' => e = .returned (.tuple #[.int .i64 (cmpB x y), rfltV 0 0]) ∧ Below w.heap.size w w' := by
  have CA := hid (fun w' (hB : Below w.heap.size w w') => ahead_at wf u (hD.below hB) hn (htf n hn) ha hb)
  have CB := hid (fun w' (hB : Below w.heap.size w w') => ahead_at wf u (hD.below hB) hn2 (htf n2 hn2) (by rw [← he]; exact hb) (by rw [← he]; exact ha))
  rw [hx] at CA
  rw [hy] at CB
  have CF := hid (placeFits_any (hD.below (three_below w n k n2 k2)) n k)
  rw [hf] at CF
  have CG := hid (fun w' (hb : Below w.heap.size w w') => placeFits_any (hD.below hb) n2 k2)
  rw [hg] at CG
  have CT := hid (fun w' (hb : Below w.heap.size w w') m (hm : m < s.length) q => top_at (w := w'.drewN q) wf (hD.below (below_drewN hb q)) (htf m hm) hm)
  have heI : ((tf n : Int) != (tf n2 : Int)) = false := by simp [he]
  clear hD wf htf u ha hb hx hy
  go_enter Tryz.func80, Tryz.ntmps80
  go_wp2_with (first
    | (go_at_call 127; refine (CG.out w2 HB2.out).mono ?_; rintro e w3 ⟨rfl, hb3⟩
       have hc3 := HC2.out.below hb3
       obtain ⟨-, -, -, ⟨cf0, cf1⟩⟩ := hc3.cells
       obtain ⟨-, ⟨ff0, ff1⟩⟩ := hc3.frozen
       have HC3 := hid hc3
       have HB3 := hid (HB2.out.trans (hb3.mono HB2.out.size))
       clear hc3 hb3)
    | (go_at_call 127; refine CF.out.mono ?_; rintro e w1 ⟨rfl, hb1⟩
       have HB1 := hid hb1
       clear hb1)
    | (go_at_call 124; have hc4 := HC3.out.put 0 0; refine (fine_any 0 0 _).mono ?_; rintro e w4 ⟨rfl, hb4⟩
       have hc5 := hc4.below hb4
       obtain ⟨⟨da0, da1⟩, ⟨db0, db1⟩, ⟨cz0, cz1⟩, ⟨cg0, cg1⟩⟩ := hc5.cells
       obtain ⟨⟨fz0, fz1⟩, -⟩ := hc5.frozen
       have HC5 := hid hc5
       have HB5 := hid (((HB3.out.setCell (p := ⟨w1.heap.size, 0, none⟩) (by have := HC3.out.gt; show w.heap.size ≤ w1.heap.size; omega) (.int .i64 0)).setCell (p := ⟨w1.heap.size, 1, none⟩) (by have := HC3.out.gt; show w.heap.size ≤ w1.heap.size; omega) (.int .i64 0)).trans (hb4.mono (by have := HB3.out.size; simpa using this)))
       clear hc4 hc5 hb4)
    | (go_at_call 124; refine (fine_any 0 0 _).mono ?_; rintro e w2 ⟨rfl, hb2⟩
       obtain ⟨hc2, hB2⟩ := Cmp.first HB1.out hb2
       obtain ⟨⟨ca0, ca1⟩, ⟨cb0, cb1⟩, -, -⟩ := hc2.cells
       have HC2 := hid hc2
       have HB2 := hid hB2
       clear hb2 hc2 hB2))
  go_quiet ((go_at_call 128; exact Calls.quiet_of_same (CT.out w4 HB5.out _ (by first | exact hn | exact hn2) _)))
  have HB5q := hid (below_drewN HB5.out nq)
  have HC5q := hid (HC5.out.below (below_drewN (Below.refl _ w4) nq))
  clear HB5
  cases x <;> cases y
  all_goals
    go_wp2_with (first
      | (go_at_call 129; refine (CB.out w6 HB6.out).mono ?_; rintro e w7 ⟨rfl, hb7⟩
         have hc7 := HC6.out.below hb7
         obtain ⟨-, -, ⟨kz0, kz1⟩, -⟩ := hc7.cells
         obtain ⟨⟨kf0, kf1⟩, -⟩ := hc7.frozen
         have HB7 := hid (HB6.out.trans (hb7.mono HB6.out.size))
         clear hb7 hc7)
      | (go_at_call 129; refine (CA.out _ HB5q.out).mono ?_; rintro e w6 ⟨rfl, hb6⟩
         have hc6 := HC5q.out.below hb6
         obtain ⟨⟨ga0, ga1⟩, ⟨gb0, gb1⟩, -, -⟩ := hc6.cells
         have HC6 := hid hc6
         have HB6 := hid (HB5q.out.trans (hb6.mono HB5q.out.size))
         clear hb6 hc6))
    first
      | (refine bodyPost_ret (v := .tuple #[.int .i64 0, rfltV 0 0]) (by simp [results, Tryz.results80, go_sem, *]) rfl ?_; exact ⟨rfl, (HB7.out.setCell (p := ⟨w.heap.size + 1 + 1, 0, none⟩) (by show w.heap.size ≤ w.heap.size + 1 + 1; omega) _).setCell (p := ⟨w.heap.size + 1 + 1, 1, none⟩) (by show w.heap.size ≤ w.heap.size + 1 + 1; omega) _⟩)
      | (refine bodyPost_ret (v := .tuple #[.int .i64 1, rfltV 0 0]) (by simp [results, Tryz.results80, go_sem, *]) rfl ?_; exact ⟨rfl, (HB7.out.setCell (p := ⟨w.heap.size + 1 + 1, 0, none⟩) (by show w.heap.size ≤ w.heap.size + 1 + 1; omega) _).setCell (p := ⟨w.heap.size + 1 + 1, 1, none⟩) (by show w.heap.size ≤ w.heap.size + 1 + 1; omega) _⟩)
      | (refine bodyPost_ret (v := .tuple #[.int .i64 (-1), rfltV 0 0]) (by simp [results, Tryz.results80, go_sem, *]) rfl ?_; exact ⟨rfl, (HB7.out.setCell (p := ⟨w.heap.size + 1 + 1, 0, none⟩) (by show w.heap.size ≤ w.heap.size + 1 + 1; omega) _).setCell (p := ⟨w.heap.size + 1 + 1, 1, none⟩) (by show w.heap.size ≤ w.heap.size + 1 + 1; omega) _⟩)
end

end Go.Proofs.YtabogkonklplcaaGreatDoor
