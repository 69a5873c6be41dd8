import Derived.Test.YtabogkonklplcaaGreatDoorF19

/- marginref's Replace, 2. -/
namespace Go.Proofs.YtabogkonklplcaaGreatDoor
open Go.RowKit
set_option linter.unusedSimpArgs false
set_option linter.unusedVariables false

section
variable {w : World} {F : Nat → Prop} {bd bn cap : Nat} {rn : List RN} {rv : Value} {s : List Nd} {rs : List Sp}

set_option maxRecDepth 20000 in
set_option maxHeartbeats 1000000 in
theorem rreplace_long (hD : RDocAt w F bd bn cap rn rv s rs) (n k : Nat) (c : Int) (x : Nd) (hx : s[n]? = some x) (ht : x.t = true) (hlen : x.cs.length ≤ 30) (hk : k ≤ x.cs.length) (hc : 0 ≤ c) (t : ByteArray) (hts : t.size < lots) (l : List ByteArray) (h : charsOf t = some l) (hl : 30 < x.cs.length - (min c ((x.cs.length : Int) - k)).toNat + l.length) (hbig : l.length < lots) :
    Calls Tryz.prog 78 #[.pointer (some ⟨bd, 0, none⟩), .int .i64 n, .int .i64 k, .int .i64 c, .string t] w fun e w' => e = .returned (rfltV n 6) ∧ Below w.heap.size w w' := by
  have hn : n < s.length := (List.getElem?_eq_some_iff.1 hx).1
  have CF := hid (textFits_ok (hD.below (one0_below w)) n k x hx ht hk)
  have h1b : ((0 : Int) == 0) = true := rfl
  have h0 := hD.nodesCell
  have hlt := hD.lt
  obtain ⟨r, hr, ho, -, hc1, -, -⟩ := hD.look hx
  obtain ⟨ca, cc, hcv⟩ := slice_shape ho.chars
  rw [hcv] at hc1
  have hcb : decide (c < 0) = false := decide_eq_false (by omega)
  have hkI : (k : Int) ≤ (x.cs.length : Int) := by omega
  have hlI : (x.cs.length : Int) ≤ 30 := by omega
  have HTB := hid (one0_below w)
  have HT := hid hts
  have HC := hid h
  unfold lots at hbig
  clear hr ho hcv hx ht
  have key : ∀ cm : Nat, (c ≤ (x.cs.length : Int) - k ∧ (cm : Int) = c ∨ (x.cs.length : Int) - k < c ∧ (cm : Int) = (x.cs.length : Int) - k) → cm = (min c ((x.cs.length : Int) - k)).toNat := fun cm h => by omega
  by_cases hcm : (x.cs.length : Int) - k < c
  · have hcd : decide ((x.cs.length : Int) - k < c) = true := decide_eq_true hcm
    have hL : (30 : Int) < (x.cs.length : Int) - ((x.cs.length : Int) - k) + l.length := by omega
    have hLd : decide ((30 : Int) < (x.cs.length : Int) - ((x.cs.length : Int) - k) + l.length) = true := decide_eq_true hL
    clear hD
    go_enter Tryz.func78, Tryz.ntmps78
    go_wp2_with (first
    | (go_at_call 123; refine CF.out.mono ?_; rintro e w1 ⟨rfl, hb1⟩
       have hq2 : w1.heap[w.heap.size]? = some (.cells #[.int .i64 0, .int .i64 0] 32 (0, 0)) := by
         rw [hb1.block _ (by simp)]
         exact heap_alloc_new w _
       have hs1 : w.heap.size + 1 ≤ w1.heap.size := by have := hb1.size; simpa using this
       have HB1 := hid (HTB.out.trans (hb1.mono HTB.out.size))
       have HQ2 := hid hq2
       clear hb1 hq2)
    | (go_at_call 124; refine (fine_any 0 0 _).mono ?_; rintro e w2 ⟨rfl, hb2⟩
       have hf2 : w2.heap[w1.heap.size]? = some (.cells #[.int .i64 0, .int .i64 0] 32 (0, 0)) := (hb2.block _ (by simp)).trans (heap_alloc_new w1 _)
       have hz2 : w2.heap[w.heap.size]? = some (.cells #[.int .i64 0, .int .i64 0] 32 (0, 0)) :=
         (hb2.block _ (by simp; omega)).trans ((((Below.refl _ w1).alloc (Nat.le_refl _) _).block _ (by omega)).trans HQ2.out)
       have cf0 : w2.cell? ⟨w1.heap.size, 0, none⟩ = some (.int .i64 0) := cell_of_heap hf2 0
       have cf1 : w2.cell? ⟨w1.heap.size, 1, none⟩ = some (.int .i64 0) := cell_of_heap hf2 1
       have cz0 : w2.cell? ⟨w.heap.size, 0, none⟩ = some (.int .i64 0) := cell_of_heap hz2 0
       have cz1 : w2.cell? ⟨w.heap.size, 1, none⟩ = some (.int .i64 0) := cell_of_heap hz2 1
       have fz0 := frozen_of_heap hz2 0
       have fz1 := frozen_of_heap hz2 1
       have HB2 := hid ((HB1.out.alloc HB1.out.size _).trans (hb2.mono (Nat.le_trans HB1.out.size (by simp))))
       have hs2 : w.heap.size + 1 ≤ w2.heap.size := by have := hb2.size; simp at this; omega
       clear hb2 hf2
       have d0 := (HB2.out.cell (p := ⟨bd, 0, none⟩) hlt.1).trans h0
       have dc1 := (HB2.out.cell (p := ⟨bn, n * 4 + 1, none⟩) hlt.2).trans hc1
       have HZ := hid hz2
       clear hz2 HQ2 HB1
       rw [h1b])
    | (go_at_call 115; refine (chars_yes t _ HT.out l HC.out).mono ?_; rintro e w3 ⟨v3, rfl, ho3, hb3⟩
       obtain ⟨a3, c3, hv3⟩ := slice_shape ho3
       subst hv3
       have hz3 : w3.heap[w.heap.size]? = some (.cells #[.int .i64 0, .int .i64 0] 32 (0, 0)) := (hb3.block _ (heap_lt HZ.out)).trans HZ.out
       have cz0' : w3.cell? ⟨w.heap.size, 0, none⟩ = some (.int .i64 0) := cell_of_heap hz3 0
       have cz1' : w3.cell? ⟨w.heap.size, 1, none⟩ = some (.int .i64 0) := cell_of_heap hz3 1
       have fz0' := frozen_of_heap hz3 0
       have fz1' := frozen_of_heap hz3 1
       have hs3 : w.heap.size + 1 ≤ w3.heap.size := by have := hb3.size; omega
       have HB3 := hid (HB2.out.trans (hb3.mono HB2.out.size))
       have HZ3 := hid hz3
       clear hb3 hz3 ho3)
    | (go_at_call 48; refine (no_any _ _ _).mono ?_; rintro e w5 ⟨rfl, hw5⟩
       have hz5 : w5.heap[w.heap.size]? = some (.cells #[.int .i64 0, .int .i64 0] 32 (0, 0)) := by rw [hw5]; exact (Below.heap_alloc _ _ _ (heap_lt HZ3.out)).trans HZ3.out
       have cz5 : w5.cell? ⟨w.heap.size, 0, none⟩ = some (.int .i64 0) := cell_of_heap hz5 0
       have cz6 : w5.cell? ⟨w.heap.size, 1, none⟩ = some (.int .i64 0) := cell_of_heap hz5 1
       have fz5 := frozen_of_heap hz5 0
       have fz6 := frozen_of_heap hz5 1
       have hs5 := heap_lt hz5
       have HB5 : Hid (Below w.heap.size w w5) := by rw [hw5]; exact HB3.out.alloc HB3.out.size _
       clear hz5 hw5))
    clear CF h0 hc1 d0 dc1 cz0 cz1 fz0 fz1 cz0' cz1' fz0' fz1' cf0 cf1
    refine bodyPost_ret (v := rfltV n 6) (by simp [results, Tryz.results78, go_sem, cz5, cz6, fz5, fz6, hs5]) rfl ?_
    exact ⟨rfl, (HB5.out.setCell (p := ⟨w.heap.size, 0, none⟩) (Nat.le_refl _) _).setCell (p := ⟨w.heap.size, 1, none⟩) (Nat.le_refl _) _⟩
  · have hcd : decide ((x.cs.length : Int) - k < c) = false := decide_eq_false hcm
    have hL : (30 : Int) < (x.cs.length : Int) - c + l.length := by omega
    have hLd : decide ((30 : Int) < (x.cs.length : Int) - c + l.length) = true := decide_eq_true hL
    have hcI : c ≤ 30 := by omega
    clear hD
    go_enter Tryz.func78, Tryz.ntmps78
    go_wp2_with (first
    | (go_at_call 123; refine CF.out.mono ?_; rintro e w1 ⟨rfl, hb1⟩
       have hq2 : w1.heap[w.heap.size]? = some (.cells #[.int .i64 0, .int .i64 0] 32 (0, 0)) := by
         rw [hb1.block _ (by simp)]
         exact heap_alloc_new w _
       have hs1 : w.heap.size + 1 ≤ w1.heap.size := by have := hb1.size; simpa using this
       have HB1 := hid (HTB.out.trans (hb1.mono HTB.out.size))
       have HQ2 := hid hq2
       clear hb1 hq2)
    | (go_at_call 124; refine (fine_any 0 0 _).mono ?_; rintro e w2 ⟨rfl, hb2⟩
       have hf2 : w2.heap[w1.heap.size]? = some (.cells #[.int .i64 0, .int .i64 0] 32 (0, 0)) := (hb2.block _ (by simp)).trans (heap_alloc_new w1 _)
       have hz2 : w2.heap[w.heap.size]? = some (.cells #[.int .i64 0, .int .i64 0] 32 (0, 0)) :=
         (hb2.block _ (by simp; omega)).trans ((((Below.refl _ w1).alloc (Nat.le_refl _) _).block _ (by omega)).trans HQ2.out)
       have cf0 : w2.cell? ⟨w1.heap.size, 0, none⟩ = some (.int .i64 0) := cell_of_heap hf2 0
       have cf1 : w2.cell? ⟨w1.heap.size, 1, none⟩ = some (.int .i64 0) := cell_of_heap hf2 1
       have cz0 : w2.cell? ⟨w.heap.size, 0, none⟩ = some (.int .i64 0) := cell_of_heap hz2 0
       have cz1 : w2.cell? ⟨w.heap.size, 1, none⟩ = some (.int .i64 0) := cell_of_heap hz2 1
       have fz0 := frozen_of_heap hz2 0
       have fz1 := frozen_of_heap hz2 1
       have HB2 := hid ((HB1.out.alloc HB1.out.size _).trans (hb2.mono (Nat.le_trans HB1.out.size (by simp))))
       have hs2 : w.heap.size + 1 ≤ w2.heap.size := by have := hb2.size; simp at this; omega
       clear hb2 hf2
       have d0 := (HB2.out.cell (p := ⟨bd, 0, none⟩) hlt.1).trans h0
       have dc1 := (HB2.out.cell (p := ⟨bn, n * 4 + 1, none⟩) hlt.2).trans hc1
       have HZ := hid hz2
       clear hz2 HQ2 HB1
       rw [h1b])
    | (go_at_call 115; refine (chars_yes t _ HT.out l HC.out).mono ?_; rintro e w3 ⟨v3, rfl, ho3, hb3⟩
       obtain ⟨a3, c3, hv3⟩ := slice_shape ho3
       subst hv3
       have hz3 : w3.heap[w.heap.size]? = some (.cells #[.int .i64 0, .int .i64 0] 32 (0, 0)) := (hb3.block _ (heap_lt HZ.out)).trans HZ.out
       have cz0' : w3.cell? ⟨w.heap.size, 0, none⟩ = some (.int .i64 0) := cell_of_heap hz3 0
       have cz1' : w3.cell? ⟨w.heap.size, 1, none⟩ = some (.int .i64 0) := cell_of_heap hz3 1
       have fz0' := frozen_of_heap hz3 0
       have fz1' := frozen_of_heap hz3 1
       have hs3 : w.heap.size + 1 ≤ w3.heap.size := by have := hb3.size; omega
       have HB3 := hid (HB2.out.trans (hb3.mono HB2.out.size))
       have HZ3 := hid hz3
       clear hb3 hz3 ho3)
    | (go_at_call 48; refine (no_any _ _ _).mono ?_; rintro e w5 ⟨rfl, hw5⟩
       have hz5 : w5.heap[w.heap.size]? = some (.cells #[.int .i64 0, .int .i64 0] 32 (0, 0)) := by rw [hw5]; exact (Below.heap_alloc _ _ _ (heap_lt HZ3.out)).trans HZ3.out
       have cz5 : w5.cell? ⟨w.heap.size, 0, none⟩ = some (.int .i64 0) := cell_of_heap hz5 0
       have cz6 : w5.cell? ⟨w.heap.size, 1, none⟩ = some (.int .i64 0) := cell_of_heap hz5 1
       have fz5 := frozen_of_heap hz5 0
       have fz6 := frozen_of_heap hz5 1
       have hs5 := heap_lt hz5
       have HB5 : Hid (Below w.heap.size w w5) := by rw [hw5]; exact HB3.out.alloc HB3.out.size _
       clear hz5 hw5))
    clear CF h0 hc1 d0 dc1 cz0 cz1 fz0 fz1 cz0' cz1' fz0' fz1' cf0 cf1
    refine bodyPost_ret (v := rfltV n 6) (by simp [results, Tryz.results78, go_sem, cz5, cz6, fz5, fz6, hs5]) rfl ?_
    exact ⟨rfl, (HB5.out.setCell (p := ⟨w.heap.size, 0, none⟩) (Nat.le_refl _) _).setCell (p := ⟨w.heap.size, 1, none⟩) (Nat.le_refl _) _⟩
end
end Go.Proofs.YtabogkonklplcaaGreatDoor
