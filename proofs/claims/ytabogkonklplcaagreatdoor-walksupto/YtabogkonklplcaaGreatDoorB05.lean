import Derived.Test.YtabogkonklplcaaGreatDoorB04
import Derived.Laws.AppendOwnNone

/- marginref's lists: 'with', 'without', 'grown'. -/
namespace Go.Proofs.YtabogkonklplcaaGreatDoor
open Go.RowKit
set_option linter.unusedSimpArgs false
set_option linter.unusedVariables false

theorem Tryz.info3 : (Tryz.prog.info? 3).map (fun i => (i.zero, i.size, i.bytes)) = some (some (.int .i64 0), 1, 8) := by kernel_rfl

theorem row_cap {w : World} {e : TypeId} {z : Nat} {g c : Nat} {n : Nat} {xs : List Value} (h : w.ownsRow 0 e z (.slice (some ⟨g, 0, none⟩) n c) n xs) : n ≤ c := by
  rcases h.2 with ⟨h, _⟩ | ⟨g', cap, cur, hv, _, _, hc, _⟩
  · cases h
  · cases hv; exact hc
theorem addr_add (g o j : Nat) : (⟨g, o, none⟩ : Addr).add j = ⟨g, o + j, none⟩ := by unfold Addr.add; split <;> simp_all

theorem intsV_one (l : List Nat) : ∀ u ∈ intsV l, u.oneCell' = true := by
  intro u hu
  simp [intsV] at hu
  obtain ⟨k, _, rfl⟩ := hu
  rfl
theorem intsV_take (l : List Nat) (k : Nat) : intsV (l.take k) = (intsV l).take k := by simp [intsV]
theorem intsV_drop (l : List Nat) (k : Nat) : intsV (l.drop k) = (intsV l).drop k := by simp [intsV]
theorem intsV_append (l m : List Nat) : intsV (l ++ m) = intsV l ++ intsV m := by simp [intsV]

/-- The cells of a part of a row, where they lie. -/
theorem part_cells {w : World} {e : TypeId} {g c n : Nat} {xs : List Value} (h : w.ownsRow 0 e 1 (.slice (some ⟨g, 0, none⟩) n c) n xs) (o : Nat) {ys : List Value} (hy : ∀ (j : Nat) (u : Value), ys[j]? = some u → xs[o + j]? = some u) :
    ∀ (j : Nat) (u : Value), ys[j]? = some u → w.cell? ((⟨g, o, none⟩ : Addr).add j) = some u := by
  intro j u hu
  have hx := hy j u hu
  have hl := (List.getElem?_eq_some_iff.1 hx).1
  have := h.1
  rw [addr_add, h.cellAt (o + j) (by omega), hx]

set_option maxRecDepth 20000 in
/-- 'l[k:]' of a row of one-cell elements: where it lies, the cells that it has. -/
theorem slice_from {w0 : World} {t e : TypeId} {g c n : Nat} {xs : List Value} (ht : Tryz.prog.underlying t = some (.slice e)) (he : Tryz.prog.elem t = e) (hs : ∀ w, (sizeOf e).run Tryz.prog w = .ok 1 w) (hr : w0.ownsRow 0 e 1 (.slice (some ⟨g, 0, none⟩) n c) n xs) (k : Nat) (hk : k ≤ n) :
    ∃ ad : Addr, (∀ w, (Instr.slice t (.slice (some ⟨g, 0, none⟩) n c) (some (.int .i64 (k : Int))) none none).run Tryz.prog w = .ok (.slice (some ad) (n - k) (c - k)) w) ∧
      ∀ w : World, w.ownsRow 0 e 1 (.slice (some ⟨g, 0, none⟩) n c) n xs → ∀ (j : Nat) (u : Value), (xs.drop k)[j]? = some u → w.cell? (ad.add j) = some u := by
  have hc := row_cap hr
  have hl := hr.1
  refine ⟨if c = k then ⟨g, 0, none⟩ else ⟨g, k, none⟩, fun w => ?_, fun w h j u hu => ?_⟩
  · rw [run_slice_l w t _ _ _ (by rw [he]; exact ht) .i64 (k : Int) (by omega) (by omega), he, hs]
    simp only [Result.andThen, sliced, Int.toNat_natCast, Nat.mul_one]
    by_cases hck : c = k
    · rw [if_pos hck, if_pos hck]
    · rw [if_neg hck, if_neg hck, Option.map_some, addr_add, Nat.zero_add]
  · rw [List.getElem?_drop] at hu
    have hj := (List.getElem?_eq_some_iff.1 hu).1
    rw [if_neg (by omega), addr_add, h.cellAt (k + j) (by omega), hu]

theorem Tryz.elem24 : Tryz.prog.elem 24 = 3 := by kernel_rfl
theorem Tryz.sizeOf3 (w : World) : (sizeOf 3).run Tryz.prog w = .ok 1 w := by kernel_rfl

set_option maxRecDepth 20000 in
set_option maxHeartbeats 400000 in
theorem with_any (l : List Nat) (v : Value) (k : Nat) (n : Nat) (w : World) (hr : w.ownsRow 0 3 1 v l.length (intsV l)) (hk : k ≤ l.length) (hbig : l.length < lots) :
    Calls Tryz.prog 117 #[v, .int .i64 k, .int .i64 n] w fun e w' => ∃ v', e = .returned v' ∧ w'.ownsRow w.heap.size 3 1 v' (l.length + 1) (intsV (l.take k ++ n :: l.drop k)) ∧ Below w.heap.size w w' := by
  obtain ⟨i0, hi, hz0, hz1, hz2⟩ := info_parts Tryz.info3
  rcases row_cases hr with ⟨hv, hn⟩ | ⟨g, c, hv⟩
  · subst hv
    obtain rfl : l = [] := List.length_eq_zero_iff.1 hn
    obtain rfl : k = 0 := by simpa using hk
    clear hr hk hn hbig
    go_enter Tryz.func117, Tryz.ntmps117
    go_wp2_with (first
      | (at_builtin; refine wpList_append_own_none rfl (.tmp 8) (.tmp 11) 24 rfl w.heap.size 3 i0 1 Tryz.underlying24 hi (.slice none 0 0) 0 [] rfl (World.ownsRow_nil _ _ _ _) rfl ?_)
      | (at_builtin; refine wpList_append_own _ rfl (.tmp 13) (.tmp 15) 24 rfl w.heap.size 3 i0 (.int .i64 0) 1 8 Tryz.underlying24 hi hz0 hz1 hz2 rfl (by decide) (.slice none 0 0) 0 [] rfl (World.ownsRow_nil _ _ _ _) ⟨w.heap.size, 0, none⟩ 1 1 [.int .i64 n] rfl rfl (cell_one_new _ _ _) (by simp [Value.oneCell']) (by unfold maxLen; omega) (by omega) (by simp) ?_; intro v2 w2 ho2 hg2 _
         have hb2 : Below w.heap.size w w2 := ((Below.refl _ w).alloc (Nat.le_refl _) _).grown hg2 (by simp) (fun k e => by cases e)
         clear hg2)
      | (at_builtin; refine wpList_append_own_none rfl (.tmp 17) (.tmp 20) 24 rfl w.heap.size 3 i0 1 Tryz.underlying24 hi v2 1 _ rfl (by simpa using ho2) rfl ?_))
    go_ret
    exact ⟨v2, rfl, by simpa [intsV] using ho2, hb2⟩
  · subst hv
    have hkc : k ≤ c := Nat.le_trans hk (row_cap hr)
    have HB : Hid (l.length < lots) := hbig
    clear hbig
    have src1 := part_cells hr 0 (ys := intsV (l.take k)) (by intro j u hu; rw [intsV_take] at hu; rw [List.getElem?_take] at hu; split at hu <;> simp_all)
    obtain ⟨ad, hsl, hsrc⟩ := slice_from Tryz.underlying24 Tryz.elem24 Tryz.sizeOf3 hr k hk
    have SRC : Hid (∀ w : World, w.ownsRow 0 3 1 (.slice (some ⟨g, 0, none⟩) l.length c) l.length (intsV l) → ∀ (j : Nat) (u : Value), ((intsV l).drop k)[j]? = some u → w.cell? (ad.add j) = some u) := hsrc
    clear hsrc
    go_enter Tryz.func117, Tryz.ntmps117
    go_wp2_with (first
      | (at_builtin; refine wpList_append_own _ rfl (.tmp 8) (.tmp 11) 24 rfl w.heap.size 3 i0 (.int .i64 0) 1 8 Tryz.underlying24 hi hz0 hz1 hz2 rfl (by decide) (.slice none 0 0) 0 [] rfl (World.ownsRow_nil _ _ _ _) ⟨g, 0, none⟩ k c (intsV (l.take k)) rfl (by simp; omega) src1 (intsV_one _) (by unfold maxLen; have := HB.out; unfold lots at this; omega) (by have := HB.out; unfold lots at this; omega) (Nat.le_refl _) ?_; intro v1 w1 ho1 hg1 _
         have hb1 : Below w.heap.size w w1 := (Below.refl _ _).grown hg1 (Nat.le_refl _) (fun k e => by cases e)
         have ho1' : w1.ownsRow w.heap.size 3 1 v1 k (intsV (l.take k)) := by simpa using ho1
         clear ho1 hg1)
      | (at_builtin; refine wpList_append_own _ rfl (.tmp 13) (.tmp 15) 24 rfl w.heap.size 3 i0 (.int .i64 0) 1 8 Tryz.underlying24 hi hz0 hz1 hz2 rfl (by decide) v1 k _ rfl (ho1'.alloc _) ⟨w1.heap.size, 0, none⟩ 1 1 [.int .i64 n] rfl rfl (cell_one_new _ _ _) (by simp [Value.oneCell']) (by unfold maxLen; have := HB.out; unfold lots at this; omega) (by have := HB.out; unfold lots at this; omega) (by have := hb1.size; simp; omega) ?_; intro v2 w2 ho2 hg2 _
         have hb2 : Below w.heap.size w w2 := (hb1.alloc hb1.size _).grown hg2 (by have := hb1.size; simp; omega) (fun k e => (ho1'.lt k e).1)
         clear hg2 ho1' hb1)
      | (at_builtin; refine wpList_append_own _ rfl (.tmp 17) (.tmp 20) 24 rfl w.heap.size 3 i0 (.int .i64 0) 1 8 Tryz.underlying24 hi hz0 hz1 hz2 rfl (by decide) v2 (k + 1) _ rfl ho2 ad (l.length - k) (c - k) ((intsV l).drop k) rfl (by simp) (SRC.out w2 ((Keeps.of_below (F := fun _ => False) hb2).row hr (fun _ _ e => e))) (fun u hu => intsV_one l u (List.mem_of_mem_drop hu)) (by unfold maxLen; have := HB.out; unfold lots at this; omega) (by have := HB.out; unfold lots at this; omega) hb2.size ?_; intro v3 w3 ho3 hg3 _
         have hb3 : Below w.heap.size w w3 := hb2.grown hg3 hb2.size (fun k e => (ho2.lt k e).1)
         clear hg3 hb2))
    go_ret
    refine ⟨v3, rfl, ?_, hb3⟩
    have e1 : k + 1 + (l.length - k) = l.length + 1 := by omega
    have e2 : intsV (l.take k) ++ [Value.int .i64 (n : Int)] ++ (intsV l).drop k = intsV (l.take k ++ n :: l.drop k) := by simp [intsV]
    rw [e1, e2] at ho3
    exact ho3

set_option maxRecDepth 20000 in
set_option maxHeartbeats 400000 in
theorem without_any (l : List Nat) (v : Value) (k : Nat) (w : World) (hr : w.ownsRow 0 3 1 v l.length (intsV l)) (hk : k < l.length) (hbig : l.length < lots) :
    Calls Tryz.prog 120 #[v, .int .i64 k] w fun e w' => ∃ v', e = .returned v' ∧ w'.ownsRow w.heap.size 3 1 v' (l.length - 1) (intsV (l.take k ++ l.drop (k + 1))) ∧ Below w.heap.size w w' := by
  obtain ⟨i0, hi, hz0, hz1, hz2⟩ := info_parts Tryz.info3
  rcases row_cases hr with ⟨hv, hn⟩ | ⟨g, c, hv⟩
  · omega
  · subst hv
    have hkc : k ≤ c := Nat.le_trans (by omega) (row_cap hr)
    have HB : Hid (l.length < lots) := hbig
    have hk1 : (k : Int) + 1 ≤ 2000000 := by unfold lots at hbig; omega
    clear hbig
    have src1 := part_cells hr 0 (ys := intsV (l.take k)) (by intro j u hu; rw [intsV_take] at hu; rw [List.getElem?_take] at hu; split at hu <;> simp_all)
    obtain ⟨ad, hsl, hsrc⟩ := slice_from Tryz.underlying24 Tryz.elem24 Tryz.sizeOf3 hr (k + 1) hk
    have ec : (((k + 1 : Nat)) : Int) = (k : Int) + 1 := by omega
    rw [ec] at hsl
    have SRC : Hid (∀ w : World, w.ownsRow 0 3 1 (.slice (some ⟨g, 0, none⟩) l.length c) l.length (intsV l) → ∀ (j : Nat) (u : Value), ((intsV l).drop (k + 1))[j]? = some u → w.cell? (ad.add j) = some u) := hsrc
    clear hsrc ec
    go_enter Tryz.func120, Tryz.ntmps120
    go_wp2_with (first
      | (at_builtin; refine wpList_append_own _ rfl (.tmp 6) (.tmp 9) 24 rfl w.heap.size 3 i0 (.int .i64 0) 1 8 Tryz.underlying24 hi hz0 hz1 hz2 rfl (by decide) (.slice none 0 0) 0 [] rfl (World.ownsRow_nil _ _ _ _) ⟨g, 0, none⟩ k c (intsV (l.take k)) rfl (by simp; omega) src1 (intsV_one _) (by unfold maxLen; have := HB.out; unfold lots at this; omega) (by have := HB.out; unfold lots at this; omega) (Nat.le_refl _) ?_; intro v1 w1 ho1 hg1 _
         have hb1 : Below w.heap.size w w1 := (Below.refl _ _).grown hg1 (Nat.le_refl _) (fun k e => by cases e)
         have ho1' : w1.ownsRow w.heap.size 3 1 v1 k (intsV (l.take k)) := by simpa using ho1
         clear ho1 hg1)
      | (at_builtin; refine wpList_append_own _ rfl (.tmp 11) (.tmp 15) 24 rfl w.heap.size 3 i0 (.int .i64 0) 1 8 Tryz.underlying24 hi hz0 hz1 hz2 rfl (by decide) v1 k _ rfl ho1' ad (l.length - (k + 1)) (c - (k + 1)) ((intsV l).drop (k + 1)) rfl (by simp) (SRC.out w1 ((Keeps.of_below (F := fun _ => False) hb1).row hr (fun _ _ e => e))) (fun u hu => intsV_one l u (List.mem_of_mem_drop hu)) (by unfold maxLen; have := HB.out; unfold lots at this; omega) (by have := HB.out; unfold lots at this; omega) hb1.size ?_; intro v3 w3 ho3 hg3 _
         have hb3 : Below w.heap.size w w3 := hb1.grown hg3 hb1.size (fun k e => (ho1'.lt k e).1)
         clear hg3 hb1))
    go_ret
    refine ⟨v3, rfl, ?_, hb3⟩
    have e1 : k + (l.length - (k + 1)) = l.length - 1 := by omega
    have e2 : intsV (l.take k) ++ (intsV l).drop (k + 1) = intsV (l.take k ++ l.drop (k + 1)) := by simp [intsV]
    rw [e1, e2] at ho3
    exact ho3

end Go.Proofs.YtabogkonklplcaaGreatDoor
