import Derived.Test.YtabogkonklplcaaGreatDoorC32
import Derived.Deep.RegionWith
import Derived.Deep.RegionHeld3

/- marginref's ahead. -/
namespace Go.Proofs.YtabogkonklplcaaGreatDoor
open Go.RowKit
set_option linter.unusedSimpArgs false
set_option linter.unusedVariables false

def AheadPost (s : List Nd) (K : Nat) (a b : Nat × Nat) (w : World) (e : Ending) (w' : World) : Prop :=
  (∃ (t : Nat) (qa qb : Int), IsTop s a.1 t ∧ IsWhere (plF s K t) a qa ∧ IsWhere (plF s K t) b qb ∧ e = .returned (.bool (decide (qa < qb)))) ∧ Below w.heap.size w w'

theorem IsTop.lt {s : List Nd} {n t : Nat} (h : IsTop s n t) : t < s.length := by
  obtain ⟨_, x, hx, _⟩ := h
  exact (List.getElem?_eq_some_iff.1 hx).1

section
variable {F : Nat → Prop} {bd bn cap : Nat} {rn : List RN} {rv : Value} {s : List Nd} {rs : List Sp}

/-- The two blocks that two places lay. -/
abbrev two (w : World) (a b : Nat × Nat) : World := (w.alloc (.cells #[.int .i64 a.1, .int .i64 a.2] 37)).alloc (.cells #[.int .i64 b.1, .int .i64 b.2] 37)
theorem two_below (w : World) (a b : Nat × Nat) : Below w.heap.size w (two w a b) := ((Below.refl _ w).alloc (Nat.le_refl _) _).alloc (by simp) _
theorem two_at (w : World) (a b : Nat × Nat) : (two w a b).heap[w.heap.size]? = some (.cells #[.int .i64 a.1, .int .i64 a.2] 37 (0, 0)) ∧ (two w a b).heap[w.heap.size + 1]? = some (.cells #[.int .i64 b.1, .int .i64 b.2] 37 (0, 0)) := by
  constructor
  · have h1 := heap_alloc_new w (.cells #[.int .i64 a.1, .int .i64 a.2] 37)
    have h2 := ((Below.refl _ (w.alloc (.cells #[.int .i64 a.1, .int .i64 a.2] 37))).alloc (Nat.le_refl _) (.cells #[.int .i64 b.1, .int .i64 b.2] 37)).block w.heap.size (by simp)
    exact h2.trans h1
  · have := heap_alloc_new (w.alloc (.cells #[.int .i64 a.1, .int .i64 a.2] 37)) (.cells #[.int .i64 b.1, .int .i64 b.2] 37)
    simpa using this

theorem four_below {w1 w2 : World} {b : Nat} {a0 a1 b0 b1 : Value} (hb : b + 1 < w1.heap.size) (hB : Below w1.heap.size w1 w2) (c00 : w1.cell? ⟨b, 0, none⟩ = some a0) (c01 : w1.cell? ⟨b, 1, none⟩ = some a1) (c10 : w1.cell? ⟨b + 1, 0, none⟩ = some b0) (c11 : w1.cell? ⟨b + 1, 1, none⟩ = some b1) :
    w2.cell? ⟨b, 0, none⟩ = some a0 ∧ w2.cell? ⟨b, 1, none⟩ = some a1 ∧ w2.cell? ⟨b + 1, 0, none⟩ = some b0 ∧ w2.cell? ⟨b + 1, 1, none⟩ = some b1 :=
  ⟨(hB.cell (p := ⟨b, 0, none⟩) (Nat.lt_of_succ_lt hb)).trans c00, (hB.cell (p := ⟨b, 1, none⟩) (Nat.lt_of_succ_lt hb)).trans c01, (hB.cell (p := ⟨b + 1, 0, none⟩) hb).trans c10, (hB.cell (p := ⟨b + 1, 1, none⟩) hb).trans c11⟩

theorem where_at (l : List (Nat × Nat)) (v : Value) (n k : Nat) (w1 w2 : World) (hr : w1.ownsRow 0 37 2 v l.length (plV l)) (hbig : l.length < lots) (hb : Below w1.heap.size w1 w2) :
    Calls Tryz.prog 133 #[v, .agg #[.int .i64 n, .int .i64 k]] w2 fun e w3 => ∃ q : Int, e = .returned (.int .i64 q) ∧ IsWhere l (n, k) q ∧ Below w1.heap.size w1 w3 := by
  refine (where_any l v n k w2 (ownsRow_below hr hb) hbig).mono ?_
  rintro e w3 ⟨⟨q, he, hq⟩, hb3⟩
  exact ⟨q, he, hq, hb.trans (hb3.mono hb.size)⟩

set_option maxRecDepth 20000 in
set_option maxHeartbeats 300000 in
theorem ahead_any (wf : WF s) {h : Nat → Nat} {B : Nat} (u : Up s h B) (n k n2 k2 : Nat) (hn : n < s.length) (w : World) (hD : RDocAt w F bd bn cap rn rv s rs) :
    Calls Tryz.prog 129 #[.pointer (some ⟨bd, 0, none⟩), .agg #[.int .i64 n, .int .i64 k], .agg #[.int .i64 n2, .int .i64 k2]] w (AheadPost s (B + 1) (n, k) (n2, k2) w) := by
  have hD0 := hD.below (two_below w (n, k) (n2, k2))
  have CT := hid (top_any wf hD0 n hn)
  have CP := hid (fun t ht => places_any wf u (B + 1) t ht (by have := u.le t; omega) _ hD0)
  have HLEN := hid (fun t ht => Nat.le_trans (plF_le wf (B + 1) t ht) (Nat.mul_le_mul_left 41 (all_length wf (B + 1) t ht)))
  have HTB := hid (two_below w (n, k) (n2, k2))
  have HTA := hid (two_at w (n, k) (n2, k2))
  clear hD hD0 wf u
  go_enter Tryz.func129, Tryz.ntmps129
  go_wp2_with (first
    | (go_at_call 128; refine CT.out.mono ?_; rintro e w0 ⟨⟨t, rfl, ht⟩, rfl⟩)
    | (go_at_call 132; refine (CP.out t ht.lt).mono ?_; rintro e w1 ⟨la, lc, rfl, hr1, hb1⟩
       have hq0 := (hb1.block w.heap.size (by simp; omega)).trans HTA.out.1
       have hq1 := (hb1.block (w.heap.size + 1) (by simp)).trans HTA.out.2))
  have hsz : w.heap.size + 2 ≤ w1.heap.size := by have := hb1.size; simpa using this
  have hlen := HLEN.out t ht.lt
  have hB1 : Below w.heap.size w w1 := HTB.out.trans (hb1.mono HTB.out.size)
  obtain ⟨L, hL⟩ : ∃ L, plF s (B + 1) t = L := ⟨_, rfl⟩
  rw [hL] at hr1 hlen
  rw [hL]
  have HL := hid hL
  have hr0 : w1.ownsRow 0 37 2 (.slice la L.length lc) L.length (plV L) := ownsRow_base hr1 (Nat.zero_le _)
  have c00 : w1.cell? ⟨w.heap.size, 0, none⟩ = some (.int .i64 n) := cell_of_heap hq0 0
  have c01 : w1.cell? ⟨w.heap.size, 1, none⟩ = some (.int .i64 k) := cell_of_heap hq0 1
  have c10 : w1.cell? ⟨w.heap.size + 1, 0, none⟩ = some (.int .i64 n2) := cell_of_heap hq1 0
  have c11 : w1.cell? ⟨w.heap.size + 1, 1, none⟩ = some (.int .i64 k2) := cell_of_heap hq1 1
  have hbl : L.length < lots := by unfold lots; omega
  have CA := hid (fun w2 (hb : Below w1.heap.size w1 w2) => where_at L (.slice la L.length lc) n k w1 w2 hr0 hbl hb)
  have CB := hid (fun w2 (hb : Below w1.heap.size w1 w2) => where_at L (.slice la L.length lc) n2 k2 w1 w2 hr0 hbl hb)
  have H4 := hid (fun w2 (hb : Below w1.heap.size w1 w2) => four_below (b := w.heap.size) (by omega) hb c00 c01 c10 c11)
  have HT := hid ht
  have HB1 := hid hB1
  have HB2 := hid ((Below.refl w1.heap.size w1).drew)
  clear hL hr1 hr0 hb1 hB1 ht hq0 hq1 CT CP HLEN HTB HTA hlen hbl
  go_region_held3 (fun w' => w'.cell? ⟨w.heap.size, 0, none⟩ = some (.int .i64 n) ∧ w'.cell? ⟨w.heap.size, 1, none⟩ = some (.int .i64 k) ∧ w'.cell? ⟨w.heap.size + 1, 0, none⟩ = some (.int .i64 n2) ∧ w'.cell? ⟨w.heap.size + 1, 1, none⟩ = some (.int .i64 k2)) (first | exact H4.out _ HB4.out | exact H4.out _ HB3.out | go_keep) (first
    | (go_at_call 133; refine (CB.out _ HB3.out).mono ?_; rintro e w4 ⟨qb, rfl, hqb, hb4⟩
       have HQB := hid hqb
       have HB4 := hid hb4
       clear hqb hb4)
    | (go_at_call 133; refine (CA.out _ HB2.out).mono ?_; rintro e w3 ⟨qa, rfl, hqa, hb3⟩
       have HQA := hid hqa
       have HB3 := hid hb3
       clear hqa hb3))
  all_goals
    go_wp2
    go_ret
    refine ⟨⟨t, qa, qb, HT.out, ?_, ?_, rfl⟩, ?_⟩
    · rw [HL.out]; exact HQA.out
    · rw [HL.out]; exact HQB.out
    · exact HB1.out.trans (HB4.out.mono HB1.out.size)
end
end Go.Proofs.YtabogkonklplcaaGreatDoor

/- marginref's Compare. -/
namespace Go.Proofs.YtabogkonklplcaaGreatDoor
open Go.RowKit
set_option linter.unusedSimpArgs false
set_option linter.unusedVariables false

/-- What stands against a place. -/
def placeFault (s : List Nd) (n k : Int) : Int × Int := if isB s n = false then (n, 1) else if k < 0 ∨ (sizeAt s n.toNat : Int) < k then (n, 3) else (0, 0)

section
variable {w : World} {F : Nat → Prop} {bd bn cap : Nat} {rn : List RN} {rv : Value} {s : List Nd} {rs : List Sp}

theorem placeFits_any (hD : RDocAt w F bd bn cap rn rv s rs) (n k : Int) :
    Calls Tryz.prog 127 #[.pointer (some ⟨bd, 0, none⟩), .agg #[.int .i64 n, .int .i64 k]] w fun e w' => e = .returned (rfltV (placeFault s n k).1 (placeFault s n k).2) ∧ Below w.heap.size w w' := by
  by_cases hb : isB s n = false
  · have e : placeFault s n k = (n, 1) := by simp [placeFault, hb]
    rw [e]
    exact placeFits_node hD n k hb
  · have hb' : isB s n = true := by simpa using hb
    have h0 : 0 ≤ n ∧ n < (s.length : Int) := by simpa [isB] using hb'
    obtain ⟨m, rfl⟩ := Int.eq_ofNat_of_zero_le h0.1
    have hm : m < s.length := by omega
    have hx : s[m]? = some s[m] := List.getElem?_eq_getElem hm
    by_cases hk : k < 0 ∨ (sizeN s[m] : Int) < k
    · have e : placeFault s m k = ((m : Int), 3) := by simp [placeFault, hb', sizeAt_eq hx, hk]
      rw [e]
      exact placeFits_index hD m k _ hx hk
    · have e : placeFault s m k = (0, 0) := by simp [placeFault, hb', sizeAt_eq hx, hk]
      rw [e]
      obtain ⟨q, rfl⟩ := Int.eq_ofNat_of_zero_le (show 0 ≤ k by omega)
      exact placeFits_ok hD m q _ hx (by omega)

/-- The three blocks that Compare lays at its entry. -/
abbrev three (w : World) (a0 a1 b0 b1 : Int) : World := ((w.alloc (.cells #[.int .i64 a0, .int .i64 a1] 37)).alloc (.cells #[.int .i64 b0, .int .i64 b1] 37)).alloc (.cells #[.int .i64 0, .int .i64 0] 32)
theorem three_below (w : World) (a0 a1 b0 b1 : Int) : Below w.heap.size w (three w a0 a1 b0 b1) := (((Below.refl _ w).alloc (Nat.le_refl _) _).alloc (by simp) _).alloc (by simp; omega) _

set_option maxRecDepth 20000 in
set_option maxHeartbeats 1000000 in
theorem compare_a (hD : RDocAt w F bd bn cap rn rv s rs) (a0 a1 b0 b1 f0 f1 : Int) (hf : placeFault s a0 a1 = (f0, f1)) (h1 : f1 ≠ 0) :
    Calls Tryz.prog 80 #[.pointer (some ⟨bd, 0, none⟩), .agg #[.int .i64 a0, .int .i64 a1], .agg #[.int .i64 b0, .int .i64 b1]] w fun e w' => e = .returned (.tuple #[.int .i64 0, rfltV f0 f1]) ∧ Below w.heap.size w w' := by
  have CF := hid (placeFits_any (hD.below (three_below w a0 a1 b0 b1)) a0 a1)
  rw [hf] at CF
  have h1b : (f1 == 0) = false := by simpa using h1
  have HTB := hid (three_below w a0 a1 b0 b1)
  clear hD
  go_enter Tryz.func80, Tryz.ntmps80
  go_wp2_with (first
    | (go_at_call 127; refine CF.out.mono ?_; rintro e w1 ⟨rfl, hb1⟩
       have hq2 : w1.heap[w.heap.size + 2]? = some (.cells #[.int .i64 0, .int .i64 0] 32 (0, 0)) := by
         rw [hb1.block _ (by simp)]
         have := heap_alloc_new ((w.alloc (.cells #[.int .i64 a0, .int .i64 a1] 37)).alloc (.cells #[.int .i64 b0, .int .i64 b1] 37)) (.cells #[.int .i64 0, .int .i64 0] 32)
         simpa using this
       have hs1 : w.heap.size + 3 ≤ w1.heap.size := by have := hb1.size; simpa using this
       have HB1 := hid (HTB.out.trans (hb1.mono HTB.out.size))
       have HQ2 := hid hq2
       clear hb1 hq2)
    | (go_at_call 124; refine (fine_any f0 f1 _).mono ?_; rintro e w2 ⟨rfl, hb2⟩
       have hf2 : w2.heap[w1.heap.size]? = some (.cells #[.int .i64 f0, .int .i64 f1] 32 (0, 0)) := (hb2.block _ (by simp)).trans (heap_alloc_new w1 _)
       have hz2 : w2.heap[w.heap.size + 1 + 1]? = some (.cells #[.int .i64 0, .int .i64 0] 32 (0, 0)) :=
         (hb2.block _ (by simp; omega)).trans ((((Below.refl _ w1).alloc (Nat.le_refl _) _).block _ (by omega)).trans HQ2.out)
       have cf0 : w2.cell? ⟨w1.heap.size, 0, none⟩ = some (.int .i64 f0) := cell_of_heap hf2 0
       have cf1 : w2.cell? ⟨w1.heap.size, 1, none⟩ = some (.int .i64 f1) := cell_of_heap hf2 1
       have cz0 : w2.cell? ⟨w.heap.size + 1 + 1, 0, none⟩ = some (.int .i64 0) := cell_of_heap hz2 0
       have cz1 : w2.cell? ⟨w.heap.size + 1 + 1, 1, none⟩ = some (.int .i64 0) := cell_of_heap hz2 1
       have fz0 := frozen_of_heap hz2 0
       have fz1 := frozen_of_heap hz2 1
       have HB2 := hid ((HB1.out.alloc HB1.out.size _).trans (hb2.mono (Nat.le_trans HB1.out.size (by simp))))
       have hs2 : w.heap.size + 3 ≤ w2.heap.size := by have := hb2.size; simp at this; omega
       clear hb2 hf2 hz2
       rw [h1b]))
  go_region
  all_goals
    go_wp2
    refine bodyPost_ret (v := .tuple #[.int .i64 0, rfltV f0 f1]) (by simp [results, Tryz.results80, go_sem, *]) rfl ?_
    exact ⟨rfl, ((HB2.out.setCell (p := ⟨w.heap.size + 1 + 1, 0, none⟩) (by show w.heap.size ≤ w.heap.size + 1 + 1; omega) _).setCell (p := ⟨w.heap.size + 1 + 1, 1, none⟩) (by show w.heap.size ≤ w.heap.size + 1 + 1; omega) _).drew⟩
end
end Go.Proofs.YtabogkonklplcaaGreatDoor

/- marginref's Compare: the other ways. -/
namespace Go.Proofs.YtabogkonklplcaaGreatDoor
open Go.RowKit
set_option linter.unusedSimpArgs false
set_option linter.unusedVariables false

/-- The four blocks of Compare: two places, the fault that it hands back, the fault that it looks at. -/
structure Cmp (w : World) (W fb : Nat) (a0 a1 b0 b1 f0 f1 : Int) : Prop where
  a : w.heap[W]? = some (.cells #[.int .i64 a0, .int .i64 a1] 37 (0, 0))
  b : w.heap[W + 1]? = some (.cells #[.int .i64 b0, .int .i64 b1] 37 (0, 0))
  z : w.heap[W + 1 + 1]? = some (.cells #[.int .i64 0, .int .i64 0] 32 (0, 0))
  f : w.heap[fb]? = some (.cells #[.int .i64 f0, .int .i64 f1] 32 (0, 0))
  gt : W + 2 < fb

section
variable {w w' : World} {W fb : Nat} {a0 a1 b0 b1 f0 f1 : Int}
theorem Cmp.below (h : Cmp w W fb a0 a1 b0 b1 f0 f1) (hb : Below w.heap.size w w') : Cmp w' W fb a0 a1 b0 b1 f0 f1 :=
  ⟨(hb.block _ (heap_lt h.a)).trans h.a, (hb.block _ (heap_lt h.b)).trans h.b, (hb.block _ (heap_lt h.z)).trans h.z, (hb.block _ (heap_lt h.f)).trans h.f, h.gt⟩
theorem Cmp.put (h : Cmp w W fb a0 a1 b0 b1 f0 f1) (g0 g1 : Int) : Cmp ((w.setCell ⟨fb, 0, none⟩ (.int .i64 g0)).setCell ⟨fb, 1, none⟩ (.int .i64 g1)) W fb a0 a1 b0 b1 g0 g1 := by
  have hg := h.gt
  have hk : ∀ i, i ≠ fb → ((w.setCell ⟨fb, 0, none⟩ (.int .i64 g0)).setCell ⟨fb, 1, none⟩ (.int .i64 g1)).heap[i]? = w.heap[i]? := fun i hi => by
    rw [Below.heap_setCell _ _ _ _ (by simpa using hi), Below.heap_setCell _ _ _ _ (by simpa using hi)]
  refine ⟨(hk _ (by omega)).trans h.a, (hk _ (by omega)).trans h.b, (hk _ (by omega)).trans h.z, ?_, hg⟩
  rw [heap_setCell_same _ fb 1 _ _ _ (heap_setCell_same w fb 0 _ _ _ h.f)]
  simp
theorem Cmp.cells (h : Cmp w W fb a0 a1 b0 b1 f0 f1) :
    (w.cell? ⟨W, 0, none⟩ = some (.int .i64 a0) ∧ w.cell? ⟨W, 1, none⟩ = some (.int .i64 a1)) ∧ (w.cell? ⟨W + 1, 0, none⟩ = some (.int .i64 b0) ∧ w.cell? ⟨W + 1, 1, none⟩ = some (.int .i64 b1)) ∧
    (w.cell? ⟨W + 1 + 1, 0, none⟩ = some (.int .i64 0) ∧ w.cell? ⟨W + 1 + 1, 1, none⟩ = some (.int .i64 0)) ∧ (w.cell? ⟨fb, 0, none⟩ = some (.int .i64 f0) ∧ w.cell? ⟨fb, 1, none⟩ = some (.int .i64 f1)) :=
  ⟨⟨cell_of_heap h.a 0, cell_of_heap h.a 1⟩, ⟨cell_of_heap h.b 0, cell_of_heap h.b 1⟩, ⟨cell_of_heap h.z 0, cell_of_heap h.z 1⟩, ⟨cell_of_heap h.f 0, cell_of_heap h.f 1⟩⟩
theorem Cmp.frozen (h : Cmp w W fb a0 a1 b0 b1 f0 f1) :
    (w.frozen? ⟨W + 1 + 1, 0, none⟩ = false ∧ w.frozen? ⟨W + 1 + 1, 1, none⟩ = false) ∧ (w.frozen? ⟨fb, 0, none⟩ = false ∧ w.frozen? ⟨fb, 1, none⟩ = false) :=
  ⟨⟨frozen_of_heap h.z 0, frozen_of_heap h.z 1⟩, ⟨frozen_of_heap h.f 0, frozen_of_heap h.f 1⟩⟩
/-- Behind the first look: the fault is laid. -/
theorem Cmp.first {w1 w2 : World} (hb1 : Below (three w a0 a1 b0 b1).heap.size (three w a0 a1 b0 b1) w1) (hb2 : Below (w1.alloc (.cells #[.int .i64 f0, .int .i64 f1] 32)).heap.size (w1.alloc (.cells #[.int .i64 f0, .int .i64 f1] 32)) w2) :
    Cmp w2 w.heap.size w1.heap.size a0 a1 b0 b1 f0 f1 ∧ Below w.heap.size w w2 := by
  have hs1 : w.heap.size + 3 ≤ w1.heap.size := by have := hb1.size; simpa using this
  have hB1 : Below w.heap.size w w1 := (three_below w a0 a1 b0 b1).trans (hb1.mono (three_below w a0 a1 b0 b1).size)
  have hal := ((Below.refl _ w1).alloc (Nat.le_refl _) (.cells #[.int .i64 f0, .int .i64 f1] 32)).trans (hb2.mono (by simp))
  have k0 : (three w a0 a1 b0 b1).heap[w.heap.size]? = some (.cells #[.int .i64 a0, .int .i64 a1] 37 (0, 0)) := by
    rw [((Below.refl _ (w.alloc (.cells #[.int .i64 a0, .int .i64 a1] 37))).alloc (Nat.le_refl _) (.cells #[.int .i64 b0, .int .i64 b1] 37)).alloc (by simp) (.cells #[.int .i64 0, .int .i64 0] 32) |>.block w.heap.size (by simp)]
    exact heap_alloc_new w _
  have k1 : (three w a0 a1 b0 b1).heap[w.heap.size + 1]? = some (.cells #[.int .i64 b0, .int .i64 b1] 37 (0, 0)) := by
    rw [((Below.refl _ ((w.alloc (.cells #[.int .i64 a0, .int .i64 a1] 37)).alloc (.cells #[.int .i64 b0, .int .i64 b1] 37))).alloc (Nat.le_refl _) (.cells #[.int .i64 0, .int .i64 0] 32)).block (w.heap.size + 1) (by simp)]
    have := heap_alloc_new (w.alloc (.cells #[.int .i64 a0, .int .i64 a1] 37)) (.cells #[.int .i64 b0, .int .i64 b1] 37)
    simpa using this
  have k2 : (three w a0 a1 b0 b1).heap[w.heap.size + 1 + 1]? = some (.cells #[.int .i64 0, .int .i64 0] 32 (0, 0)) := by
    have := heap_alloc_new ((w.alloc (.cells #[.int .i64 a0, .int .i64 a1] 37)).alloc (.cells #[.int .i64 b0, .int .i64 b1] 37)) (.cells #[.int .i64 0, .int .i64 0] 32)
    simpa using this
  have up : ∀ i, i < w.heap.size + 3 → w2.heap[i]? = (three w a0 a1 b0 b1).heap[i]? := fun i hi => (hal.block i (by omega)).trans (hb1.block i (by simp; omega))
  refine ⟨⟨(up _ (by omega)).trans k0, (up _ (by omega)).trans k1, (up _ (by omega)).trans k2, (hb2.block _ (by simp)).trans (heap_alloc_new w1 _), by omega⟩, hB1.trans (hal.mono hB1.size)⟩
end

end Go.Proofs.YtabogkonklplcaaGreatDoor
