import Derived.Test.YtabogkonklplcaaGreatDoorF19

/- marginref's Replace, 3. -/
namespace Go.Proofs.YtabogkonklplcaaGreatDoor
open Go.RowKit
set_option linter.unusedSimpArgs false
set_option linter.unusedVariables false

section
variable {w : World} {F : Nat → Prop} {bd bn cap : Nat} {rn : List RN} {rv : Value} {s : List Nd} {rs : List Sp}

set_option maxRecDepth 20000 in
set_option maxHeartbeats 1000000 in
theorem rreplace_done (hD : RDocAt w F bd bn cap rn rv s []) (n k : Nat) (c : Int) (x : Nd) (hx : s[n]? = some x) (ht : x.t = true) (hlen : x.cs.length ≤ 30) (hk : k ≤ x.cs.length) (hc : 0 ≤ c) (t : ByteArray) (hts : t.size < lots) (l : List ByteArray) (h : charsOf t = some l) (cm : Nat) (hcm0 : cm = (min c ((x.cs.length : Int) - k)).toNat) (hl : x.cs.length - cm + l.length ≤ 30) (hbig : l.length < lots) :
    Calls Tryz.prog 78 #[.pointer (some ⟨bd, 0, none⟩), .int .i64 n, .int .i64 k, .int .i64 c, .string t] w fun e w' => e = .returned (rfltV 0 0) ∧ Keeps F w w' ∧ RDoc w' (fun b => F b ∨ w.heap.size ≤ b) bd (s.set n { x with cs := x.cs.take k ++ l ++ x.cs.drop (k + cm) }) [] := by
  have hn : n < s.length := (List.getElem?_eq_some_iff.1 hx).1
  have CF := hid (textFits_ok (hD.below (one0_below w)) n k x hx ht hk)
  have h1b : ((0 : Int) == 0) = true := rfl
  have h0 := hD.nodesCell
  have hlt := hD.lt
  obtain ⟨r, hr, ho, -, hc1, -, -⟩ := hD.look hx
  obtain ⟨ca, cc, hcv⟩ := slice_shape ho.chars
  rw [hcv] at hc1
  have hcb : decide (c < 0) = false := decide_eq_false (by omega)
  have hkI : (k : Int) ≤ (x.cs.length : Int) := by omega
  have hlI : (x.cs.length : Int) ≤ 30 := by omega
  have HTB := hid (one0_below w)
  have HT := hid hts
  have HC := hid h
  have HBIG := hid hbig
  have HN := hid hD.narrow
  have HX := hid hx
  unfold lots at hbig
  clear hr ho hcv hx ht
  have key : ∀ cm : Nat, (c ≤ (x.cs.length : Int) - k ∧ (cm : Int) = c ∨ (x.cs.length : Int) - k < c ∧ (cm : Int) = (x.cs.length : Int) - k) → cm = (min c ((x.cs.length : Int) - k)).toNat := fun cm h => by omega
  by_cases hcm : (x.cs.length : Int) - k < c
  · have hcd : decide ((x.cs.length : Int) - k < c) = true := decide_eq_true hcm
    have hcmI : (cm : Int) = (x.cs.length : Int) - k := by omega
    have hLd : decide ((30 : Int) < (x.cs.length : Int) - ((x.cs.length : Int) - k) + l.length) = false := decide_eq_false (by omega)
    clear hD
    go_enter Tryz.func78, Tryz.ntmps78
    go_wp2_with (first
    | (go_at_call 123; refine CF.out.mono ?_; rintro e w1 ⟨rfl, hb1⟩
       have hq2 : w1.heap[w.heap.size]? = some (.cells #[.int .i64 0, .int .i64 0] 32 (0, 0)) := by
         rw [hb1.block _ (by simp)]
         exact heap_alloc_new w _
       have hs1 : w.heap.size + 1 ≤ w1.heap.size := by have := hb1.size; simpa using this
       have HB1 := hid (HTB.out.trans (hb1.mono HTB.out.size))
       have HQ2 := hid hq2
       clear hb1 hq2)
    | (go_at_call 124; refine (fine_any 0 0 _).mono ?_; rintro e w2 ⟨rfl, hb2⟩
       have hf2 : w2.heap[w1.heap.size]? = some (.cells #[.int .i64 0, .int .i64 0] 32 (0, 0)) := (hb2.block _ (by simp)).trans (heap_alloc_new w1 _)
       have hz2 : w2.heap[w.heap.size]? = some (.cells #[.int .i64 0, .int .i64 0] 32 (0, 0)) :=
         (hb2.block _ (by simp; omega)).trans ((((Below.refl _ w1).alloc (Nat.le_refl _) _).block _ (by omega)).trans HQ2.out)
       have cf0 : w2.cell? ⟨w1.heap.size, 0, none⟩ = some (.int .i64 0) := cell_of_heap hf2 0
       have cf1 : w2.cell? ⟨w1.heap.size, 1, none⟩ = some (.int .i64 0) := cell_of_heap hf2 1
       have cz0 : w2.cell? ⟨w.heap.size, 0, none⟩ = some (.int .i64 0) := cell_of_heap hz2 0
       have cz1 : w2.cell? ⟨w.heap.size, 1, none⟩ = some (.int .i64 0) := cell_of_heap hz2 1
       have fz0 := frozen_of_heap hz2 0
       have fz1 := frozen_of_heap hz2 1
       have HB2 := hid ((HB1.out.alloc HB1.out.size _).trans (hb2.mono (Nat.le_trans HB1.out.size (by simp))))
       have hs2 : w.heap.size + 1 ≤ w2.heap.size := by have := hb2.size; simp at this; omega
       clear hb2 hf2
       have d0 := (HB2.out.cell (p := ⟨bd, 0, none⟩) hlt.1).trans h0
       have dc1 := (HB2.out.cell (p := ⟨bn, n * 4 + 1, none⟩) hlt.2).trans hc1
       have HZ := hid hz2
       clear hz2 HQ2 HB1
       rw [h1b])
    | (go_at_call 115; refine (chars_yes t _ HT.out l HC.out).mono ?_; rintro e w3 ⟨v3, rfl, ho3, hb3⟩
       obtain ⟨a3, c3, hv3⟩ := slice_shape ho3
       subst hv3
       have hz3 : w3.heap[w.heap.size]? = some (.cells #[.int .i64 0, .int .i64 0] 32 (0, 0)) := (hb3.block _ (heap_lt HZ.out)).trans HZ.out
       have cz0' : w3.cell? ⟨w.heap.size, 0, none⟩ = some (.int .i64 0) := cell_of_heap hz3 0
       have cz1' : w3.cell? ⟨w.heap.size, 1, none⟩ = some (.int .i64 0) := cell_of_heap hz3 1
       have fz0' := frozen_of_heap hz3 0
       have fz1' := frozen_of_heap hz3 1
       have hs3 : w.heap.size + 1 ≤ w3.heap.size := by have := hb3.size; omega
       have HB3 := hid (HB2.out.trans (hb3.mono HB2.out.size))
       have HZ3 := hid hz3
       have CR := hid (replace_any (HN.out.below HB3.out) n k cm x HX.out hlen (by omega) _ l HBIG.out (ownsRow_zero ho3))
       clear hb3 hz3 ho3)
    | (go_at_call 125
       (first | rw [← hcmI] | skip)
       refine CR.out.mono ?_
       rintro e w4 ⟨rfl, hk4, hr4⟩
       have hz4 := (hk4.block _ (heap_lt HZ3.out) (fun e => Nat.lt_irrefl _ e.2)).trans HZ3.out
       have cz0'' : w4.cell? ⟨w.heap.size, 0, none⟩ = some (.int .i64 0) := cell_of_heap hz4 0
       have cz1'' : w4.cell? ⟨w.heap.size, 1, none⟩ = some (.int .i64 0) := cell_of_heap hz4 1
       have fz0'' := frozen_of_heap hz4 0
       have fz1'' := frozen_of_heap hz4 1
       have hs4 := heap_lt hz4
       have HK4 := hid hk4
       have HR4 := hid hr4
       clear hk4 hr4 hz4))
    refine bodyPost_ret (v := rfltV 0 0) (by simp [results, Tryz.results78, go_sem, cz0'', cz1'', fz0'', fz1'', hs4]) rfl ?_
    have hk5 : Keeps (fun b => F b ∧ b < w.heap.size) w w4 := (Keeps.of_below HB3.out).trans (HK4.out.mono (fun b _ e => .inl e))
    have hk6 : Keeps (fun b => b = w.heap.size) w4 ((w4.setCell ⟨w.heap.size, 0, none⟩ (.int .i64 0)).setCell ⟨w.heap.size, 1, none⟩ (.int .i64 0)) := ((Keeps.refl (fun b => b = w.heap.size) w4).setCell (p := ⟨w.heap.size, 0, none⟩) (.inl rfl) _).setCell (p := ⟨w.heap.size, 1, none⟩) (.inl rfl) _
    obtain ⟨bn4, cap4, rn4, rv4, hD4⟩ := HR4.out.keeps hk6 (fun b e e2 => by rcases e with e | e <;> omega)
    have hk7 : Keeps F w w4 := hk5.mono (fun b _ e => e.1)
    refine ⟨rfl, (hk7.setCell (p := ⟨w.heap.size, 0, none⟩) (.inr (Nat.le_refl _)) _).setCell (p := ⟨w.heap.size, 1, none⟩) (.inr (Nat.le_refl _)) _, bn4, cap4, rn4, rv4, hD4.wider (fun b e => ?_)⟩
    rcases e with e | e
    · exact .inl e.1
    · exact .inr (by omega)
  · have hcd : decide ((x.cs.length : Int) - k < c) = false := decide_eq_false hcm
    have hcmI : (cm : Int) = c := by omega
    have hLd : decide ((30 : Int) < (x.cs.length : Int) - c + l.length) = false := decide_eq_false (by omega)
    have hcI : c ≤ 30 := by omega
    clear hD
    go_enter Tryz.func78, Tryz.ntmps78
    go_wp2_with (first
    | (go_at_call 123; refine CF.out.mono ?_; rintro e w1 ⟨rfl, hb1⟩
       have hq2 : w1.heap[w.heap.size]? = some (.cells #[.int .i64 0, .int .i64 0] 32 (0, 0)) := by
         rw [hb1.block _ (by simp)]
         exact heap_alloc_new w _
       have hs1 : w.heap.size + 1 ≤ w1.heap.size := by have := hb1.size; simpa using this
       have HB1 := hid (HTB.out.trans (hb1.mono HTB.out.size))
       have HQ2 := hid hq2
       clear hb1 hq2)
    | (go_at_call 124; refine (fine_any 0 0 _).mono ?_; rintro e w2 ⟨rfl, hb2⟩
       have hf2 : w2.heap[w1.heap.size]? = some (.cells #[.int .i64 0, .int .i64 0] 32 (0, 0)) := (hb2.block _ (by simp)).trans (heap_alloc_new w1 _)
       have hz2 : w2.heap[w.heap.size]? = some (.cells #[.int .i64 0, .int .i64 0] 32 (0, 0)) :=
         (hb2.block _ (by simp; omega)).trans ((((Below.refl _ w1).alloc (Nat.le_refl _) _).block _ (by omega)).trans HQ2.out)
       have cf0 : w2.cell? ⟨w1.heap.size, 0, none⟩ = some (.int .i64 0) := cell_of_heap hf2 0
       have cf1 : w2.cell? ⟨w1.heap.size, 1, none⟩ = some (.int .i64 0) := cell_of_heap hf2 1
       have cz0 : w2.cell? ⟨w.heap.size, 0, none⟩ = some (.int .i64 0) := cell_of_heap hz2 0
       have cz1 : w2.cell? ⟨w.heap.size, 1, none⟩ = some (.int .i64 0) := cell_of_heap hz2 1
       have fz0 := frozen_of_heap hz2 0
       have fz1 := frozen_of_heap hz2 1
       have HB2 := hid ((HB1.out.alloc HB1.out.size _).trans (hb2.mono (Nat.le_trans HB1.out.size (by simp))))
       have hs2 : w.heap.size + 1 ≤ w2.heap.size := by have := hb2.size; simp at this; omega
       clear hb2 hf2
       have d0 := (HB2.out.cell (p := ⟨bd, 0, none⟩) hlt.1).trans h0
       have dc1 := (HB2.out.cell (p := ⟨bn, n * 4 + 1, none⟩) hlt.2).trans hc1
       have HZ := hid hz2
       clear hz2 HQ2 HB1
       rw [h1b])
    | (go_at_call 115; refine (chars_yes t _ HT.out l HC.out).mono ?_; rintro e w3 ⟨v3, rfl, ho3, hb3⟩
       obtain ⟨a3, c3, hv3⟩ := slice_shape ho3
       subst hv3
       have hz3 : w3.heap[w.heap.size]? = some (.cells #[.int .i64 0, .int .i64 0] 32 (0, 0)) := (hb3.block _ (heap_lt HZ.out)).trans HZ.out
       have cz0' : w3.cell? ⟨w.heap.size, 0, none⟩ = some (.int .i64 0) := cell_of_heap hz3 0
       have cz1' : w3.cell? ⟨w.heap.size, 1, none⟩ = some (.int .i64 0) := cell_of_heap hz3 1
       have fz0' := frozen_of_heap hz3 0
       have fz1' := frozen_of_heap hz3 1
       have hs3 : w.heap.size + 1 ≤ w3.heap.size := by have := hb3.size; omega
       have HB3 := hid (HB2.out.trans (hb3.mono HB2.out.size))
       have HZ3 := hid hz3
       have CR := hid (replace_any (HN.out.below HB3.out) n k cm x HX.out hlen (by omega) _ l HBIG.out (ownsRow_zero ho3))
       clear hb3 hz3 ho3)
    | (go_at_call 125
       (first | rw [← hcmI] | skip)
       refine CR.out.mono ?_
       rintro e w4 ⟨rfl, hk4, hr4⟩
       have hz4 := (hk4.block _ (heap_lt HZ3.out) (fun e => Nat.lt_irrefl _ e.2)).trans HZ3.out
       have cz0'' : w4.cell? ⟨w.heap.size, 0, none⟩ = some (.int .i64 0) := cell_of_heap hz4 0
       have cz1'' : w4.cell? ⟨w.heap.size, 1, none⟩ = some (.int .i64 0) := cell_of_heap hz4 1
       have fz0'' := frozen_of_heap hz4 0
       have fz1'' := frozen_of_heap hz4 1
       have hs4 := heap_lt hz4
       have HK4 := hid hk4
       have HR4 := hid hr4
       clear hk4 hr4 hz4))
    refine bodyPost_ret (v := rfltV 0 0) (by simp [results, Tryz.results78, go_sem, cz0'', cz1'', fz0'', fz1'', hs4]) rfl ?_
    have hk5 : Keeps (fun b => F b ∧ b < w.heap.size) w w4 := (Keeps.of_below HB3.out).trans (HK4.out.mono (fun b _ e => .inl e))
    have hk6 : Keeps (fun b => b = w.heap.size) w4 ((w4.setCell ⟨w.heap.size, 0, none⟩ (.int .i64 0)).setCell ⟨w.heap.size, 1, none⟩ (.int .i64 0)) := ((Keeps.refl (fun b => b = w.heap.size) w4).setCell (p := ⟨w.heap.size, 0, none⟩) (.inl rfl) _).setCell (p := ⟨w.heap.size, 1, none⟩) (.inl rfl) _
    obtain ⟨bn4, cap4, rn4, rv4, hD4⟩ := HR4.out.keeps hk6 (fun b e e2 => by rcases e with e | e <;> omega)
    have hk7 : Keeps F w w4 := hk5.mono (fun b _ e => e.1)
    refine ⟨rfl, (hk7.setCell (p := ⟨w.heap.size, 0, none⟩) (.inr (Nat.le_refl _)) _).setCell (p := ⟨w.heap.size, 1, none⟩) (.inr (Nat.le_refl _)) _, bn4, cap4, rn4, rv4, hD4.wider (fun b e => ?_)⟩
    rcases e with e | e
    · exact .inl e.1
    · exact .inr (by omega)
end
end Go.Proofs.YtabogkonklplcaaGreatDoor
