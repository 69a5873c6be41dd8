import Derived.Test.YtabogkonklplcaaGreatDoorF04
import Derived.Test.YtabogkonklplcaaGreatDoorF06

/- margin.fault: what a caller sees of an inner error. -/
namespace Go.Proofs.YtabogkonklplcaaGreatDoor
open Go.RowKit Go.Extern.Stop Go.Stop Go.Extern
set_option linter.unusedSimpArgs false
set_option linter.unusedVariables false

/-- (Value).Set of a Refusal: two cells. -/
theorem fa_setR (tb bb : Nat) (n : Int) (y o0 o1 : Value) (W : World) (hy : y.oneCell' = true) (hb0 : W.cell? ⟨bb, 0, none⟩ = some (.int .i64 n)) (hb1 : W.cell? ⟨bb, 1, none⟩ = some y)
    (ht0 : W.cell? ⟨tb, 0, none⟩ = some o0) (ht1 : W.cell? ⟨tb, 1, none⟩ = some o1) (hf0 : W.frozen? ⟨tb, 0, none⟩ = false) (hf1 : W.frozen? ⟨tb, 1, none⟩ = false) :
    (ReflectliteValue.set #[.agg #[.pointer (some ⟨7, 145, none⟩), .pointer (some ⟨tb, 0, none⟩), .int .u64 409], .agg #[.pointer (some ⟨7, 145, none⟩), .pointer (some ⟨bb, 0, none⟩), .int .u64 153]]).run Tryz.prog W
      = .ok (.tuple #[]) ((W.setCell ⟨tb, 0, none⟩ (.int .i64 n)).setCell ⟨tb, 1, none⟩ y) := by
  rw [rls]
  simp only [Sem.run_bind, fa_partsRa, fa_partsRb, Result.andThen]
  simp [ReflectliteValue.flagAddr, loadVar, isAgg, underlying, Tryz.underlying145, hb0, hb1, Result.andThen, fa_dirR, storeVar, Value.cells, storeCells, Addr.add, loadCellsFrom]
  have e1 : (⟨bb, 0, none⟩ : Addr).add 1 = ⟨bb, 1, none⟩ := by rfl
  have hlc : (loadCells ⟨bb, 0, none⟩ 2).run Tryz.prog W = .ok #[.int .i64 n, y] W := by
    simp [loadCells, loadCellsFrom, Addr.add, go_sem, hb0, hb1, Result.andThen]
  rw [hlc]
  simp [storeCells, Addr.add, Sem.run_bind]
  rw [run_store Tryz.prog W ⟨tb, 0, none⟩ _ _ (by rfl)]
  simp [ht0, hf0, Result.andThen]
  have ht1' : (W.setCell ⟨tb, 0, none⟩ (.int .i64 n)).cell? ⟨tb, 1, none⟩ = some o1 := by rw [World.cell?_setCell_other _ _ _ _ (by simp)]; exact ht1
  rw [run_store Tryz.prog _ ⟨tb, 1, none⟩ _ _ hy]
  simp [ht1', hf1]

end Go.Proofs.YtabogkonklplcaaGreatDoor

/- marginref's Show. -/
namespace Go.Proofs.YtabogkonklplcaaGreatDoor
open Go.RowKit
set_option linter.unusedSimpArgs false
set_option linter.unusedVariables false

section
variable {w : World} {F : Nat → Prop} {bd bn cap : Nat} {rn : List RN} {rv : Value} {s : List Nd} {rs : List Sp}

theorem shown_any (wf : WF s) {h : Nat → Nat} {B : Nat} (u : Up s h B) : ∀ (k n : Nat), n < s.length → h n < k → ∀ w : World, RDocAt w F bd bn cap rn rv s rs →
    Calls Tryz.prog 122 #[.pointer (some ⟨bd, 0, none⟩), .int .i64 n] w fun e w' => e = .returned (.string (shownF s k n)) ∧ Below w.heap.size w w' := by
  intro k
  induction k with
  | zero => intro n _ hk; omega
  | succ k ih =>
    intro n hn hk w hD
    have hx : s[n]? = some s[n] := List.getElem?_eq_getElem hn
    generalize s[n] = x at hx
    have hsz := shown_size wf u (k + 1) n hn hk
    have hal := all_length wf (k + 1) n hn
    have h40 := wf.cap
    have hch := wf.chars n x hx
    have hkl : x.ks.length ≤ 40 := nodup_length 40 _ (wf.nodup n x hx) (fun c hc => by have := (wf.kid_lt u hx hc).1; omega)
    simp only [shownF, hx] at hsz ⊢
    cases ht : x.t with
    | true =>
      rw [if_pos rfl]
      rw [ht, if_pos rfl, ByteArray.size_append] at hsz
      exact shown_text hD n x hx ht (by omega) (by unfold lots; omega) (by unfold lots; omega)
    | false =>
      rw [if_neg (by decide)]
      rw [ht, if_neg (by decide), ByteArray.size_append] at hsz
      refine shown_elem hD n x (shownF s k) hx ht (by omega) (by unfold lots; omega) (by unfold lots; omega) (fun c hc w1 h1 => ?_)
      have := wf.kid_lt u hx hc
      exact ih c this.1 (by omega) w1 h1

set_option maxRecDepth 20000 in
set_option maxHeartbeats 1000000 in
theorem rshow_no (hD : RDocAt w F bd bn cap rn rv s rs) (n : Int) (hn : isB s n = false) :
    Calls Tryz.prog 77 #[.pointer (some ⟨bd, 0, none⟩), .int .i64 n] w fun e w' => e = .returned (.tuple #[.string ⟨#[]⟩, .agg #[.int .i64 n, .int .i64 1]]) ∧ Below w.heap.size w w' := by
  have HD := hid hD.faultAt
  clear hD
  go_enter Tryz.func77, Tryz.ntmps77
  go_wp2_with (first
    | (go_at_call 47; refine (is_at HD.out _).mono ?_; rintro e w' ⟨rfl, rfl⟩)
    | (go_at_call 48; refine (no_any _ _ _).mono ?_; rintro e w' ⟨rfl, rfl⟩))
  go_returns
  refine ⟨rfl, ?_⟩
  go_grown

set_option maxRecDepth 20000 in
set_option maxHeartbeats 1000000 in
theorem rshow_yes (wf : WF s) (hD : RDocAt w F bd bn cap rn rv s rs) (n : Nat) (hn : n < s.length) (b : ByteArray) (hb : Lim (fun k => shownF s k n) b) :
    Calls Tryz.prog 77 #[.pointer (some ⟨bd, 0, none⟩), .int .i64 n] w fun e w' => e = .returned (.tuple #[.string b, .agg #[.int .i64 0, .int .i64 0]]) ∧ Below w.heap.size w w' := by
  have hi : isB s n = true := isB_of (by omega)
  obtain ⟨h, B, u⟩ := wf.up
  have hc := shown_any (F := F) (bd := bd) (bn := bn) (cap := cap) (rn := rn) (rv := rv) (rs := rs) wf u (h n + 1) n hn (by omega) _ hD.faultAt
  rw [(shown_lim wf u (k := h n + 1) (n := n) (by omega)).unique hb] at hc
  have HC := hid hc
  have HD := hid hD.faultAt
  clear hD hc hb
  go_enter Tryz.func77, Tryz.ntmps77
  go_wp2_with (first
    | (go_at_call 47; refine (is_at HD.out _).mono ?_; rintro e w' ⟨rfl, rfl⟩)
    | (go_at_call 122
       refine HC.out.mono ?_
       rintro e w1 ⟨rfl, hb⟩
       have hq : w1.heap[w.heap.size]? = some (.cells #[.int .i64 0, .int .i64 0] 32 (0, 0)) := (hb.block w.heap.size (by simp)).trans (heap_alloc_new w _)
       have hc2 : w1.cell? ⟨w.heap.size, 0, none⟩ = some (.int .i64 0) := cell_of_heap hq 0
       have hc3 : w1.cell? ⟨w.heap.size, 1, none⟩ = some (.int .i64 0) := cell_of_heap hq 1
       have hf2 := frozen_of_heap hq 0
       have hf3 := frozen_of_heap hq 1
       have HB : Hid (Below w.heap.size w w1) := ((Below.refl _ w).alloc (Nat.le_refl _) _).trans (hb.mono (by simp))
       clear hq hb))
  refine bodyPost_ret (v := .tuple #[.string b, .agg #[.int .i64 0, .int .i64 0]]) (by simp [results, Tryz.results77, go_sem, *]) rfl ?_
  refine ⟨rfl, ?_⟩
  have hh := HB.out
  have hsz := hh.size
  go_grown
end

end Go.Proofs.YtabogkonklplcaaGreatDoor

/- marginref's fine, textFits, size, placeFits. -/
namespace Go.Proofs.YtabogkonklplcaaGreatDoor
open Go.RowKit
set_option linter.unusedSimpArgs false
set_option linter.unusedVariables false

abbrev rfltV (a y : Int) : Value := .agg #[.int .i64 a, .int .i64 y]

set_option maxHeartbeats 400000 in
theorem fine_any (a y : Int) (w : World) : Calls Tryz.prog 124 #[rfltV a y] w fun e w' => e = .returned (.bool (y == 0)) ∧ Below w.heap.size w w' := by
  go_enter Tryz.func124, Tryz.ntmps124
  go_wp2
  go_ret
  exact ⟨rfl, (Below.refl _ w).alloc (Nat.le_refl _) _⟩

section
variable {w : World} {F : Nat → Prop} {bd bn cap : Nat} {rn : List RN} {rv : Value} {s : List Nd} {rs : List Sp}

set_option maxRecDepth 20000 in
set_option maxHeartbeats 1000000 in
theorem textFits_node (hD : RDocAt w F bd bn cap rn rv s rs) (n k : Int) (hn : isB s n = false) :
    Calls Tryz.prog 123 #[.pointer (some ⟨bd, 0, none⟩), .int .i64 n, .int .i64 k] w fun e w' => e = .returned (rfltV n 1) ∧ Below w.heap.size w w' := by
  have HD := hid hD.faultAt
  clear hD
  go_enter Tryz.func123, Tryz.ntmps123
  go_wp2_with (first
    | (go_at_call 47; refine (is_at HD.out _).mono ?_; rintro e w' ⟨rfl, rfl⟩)
    | (go_at_call 48; refine (no_any _ _ _).mono ?_; rintro e w' ⟨rfl, rfl⟩))
  go_returns
  refine ⟨rfl, ?_⟩
  go_grown

set_option maxRecDepth 20000 in
set_option maxHeartbeats 1000000 in
theorem textFits_kind (hD : RDocAt w F bd bn cap rn rv s rs) (n : Nat) (k : Int) (x : Nd) (hx : s[n]? = some x) (ht : x.t = false) :
    Calls Tryz.prog 123 #[.pointer (some ⟨bd, 0, none⟩), .int .i64 n, .int .i64 k] w fun e w' => e = .returned (rfltV n 2) ∧ Below w.heap.size w w' := by
  have hi : n < s.length := (List.getElem?_eq_some_iff.1 hx).1
  have hb : isB s n = true := isB_of (by omega)
  have HD := hid hD.faultAt
  have h0 := hD.faultAt.nodesCell
  obtain ⟨r, hr, ho, c0, c1, c2, c3⟩ := hD.faultAt.look hx
  rw [ht] at c0
  clear hD c1 c2 c3 hr ho hx
  go_enter Tryz.func123, Tryz.ntmps123
  go_wp2_with (first
    | (go_at_call 47; refine (is_at HD.out _).mono ?_; rintro e w' ⟨rfl, rfl⟩)
    | (go_at_call 48; refine (no_any _ _ _).mono ?_; rintro e w' ⟨rfl, rfl⟩))
  go_returns
  refine ⟨rfl, ?_⟩
  go_grown

set_option maxRecDepth 20000 in
set_option maxHeartbeats 1000000 in
theorem textFits_index (hD : RDocAt w F bd bn cap rn rv s rs) (n : Nat) (k : Int) (x : Nd) (hx : s[n]? = some x) (ht : x.t = true) (hk : k < 0 ∨ (x.cs.length : Int) < k) :
    Calls Tryz.prog 123 #[.pointer (some ⟨bd, 0, none⟩), .int .i64 n, .int .i64 k] w fun e w' => e = .returned (rfltV n 3) ∧ Below w.heap.size w w' := by
  have hi : n < s.length := (List.getElem?_eq_some_iff.1 hx).1
  have hb : isB s n = true := isB_of (by omega)
  have HD := hid hD.faultAt
  have h0 := hD.faultAt.nodesCell
  obtain ⟨r, hr, ho, c0, c1, c2, c3⟩ := hD.faultAt.look hx
  rw [ht] at c0
  obtain ⟨sa, sc, hkv⟩ : ∃ a c, r.cv = .slice a x.cs.length c := by
    rcases row_cases ho.chars with ⟨h1, h2⟩ | ⟨g, c, h1⟩
    · exact ⟨none, 0, by rw [h1, h2]⟩
    · exact ⟨_, _, h1⟩
  rw [hkv] at c1
  clear hD c2 c3 hr ho hx hkv
  by_cases hneg : k < 0
  · clear hk c1
    go_enter Tryz.func123, Tryz.ntmps123
    go_wp2_with (first
      | (go_at_call 47; refine (is_at HD.out _).mono ?_; rintro e w' ⟨rfl, rfl⟩)
      | (go_at_call 48; refine (no_any _ _ _).mono ?_; rintro e w' ⟨rfl, rfl⟩))
    go_returns
    refine ⟨rfl, ?_⟩
    go_grown
  · have hk2 : (x.cs.length : Int) < k := by omega
    have hneg2 : decide (k < 0) = false := decide_eq_false hneg
    clear hk
    go_enter Tryz.func123, Tryz.ntmps123
    go_wp2_with (first
      | (go_at_call 47; refine (is_at HD.out _).mono ?_; rintro e w' ⟨rfl, rfl⟩)
      | (go_at_call 48; refine (no_any _ _ _).mono ?_; rintro e w' ⟨rfl, rfl⟩))
    go_returns
    refine ⟨rfl, ?_⟩
    go_grown

set_option maxRecDepth 20000 in
set_option maxHeartbeats 1000000 in
theorem textFits_ok (hD : RDocAt w F bd bn cap rn rv s rs) (n k : Nat) (x : Nd) (hx : s[n]? = some x) (ht : x.t = true) (hk : k ≤ x.cs.length) :
    Calls Tryz.prog 123 #[.pointer (some ⟨bd, 0, none⟩), .int .i64 n, .int .i64 k] w fun e w' => e = .returned (rfltV 0 0) ∧ Below w.heap.size w w' := by
  have hi : n < s.length := (List.getElem?_eq_some_iff.1 hx).1
  have hb : isB s n = true := isB_of (by omega)
  have HD := hid hD.faultAt
  have h0 := hD.faultAt.nodesCell
  obtain ⟨r, hr, ho, c0, c1, c2, c3⟩ := hD.faultAt.look hx
  rw [ht] at c0
  obtain ⟨sa, sc, hkv⟩ : ∃ a c, r.cv = .slice a x.cs.length c := by
    rcases row_cases ho.chars with ⟨h1, h2⟩ | ⟨g, c, h1⟩
    · exact ⟨none, 0, by rw [h1, h2]⟩
    · exact ⟨_, _, h1⟩
  rw [hkv] at c1
  have hk2 : ¬ (x.cs.length : Int) < (k : Int) := by omega
  have hneg2 : decide ((k : Int) < 0) = false := decide_eq_false (by omega)
  have hk3 : decide ((x.cs.length : Int) < (k : Int)) = false := decide_eq_false hk2
  clear hD c2 c3 hr ho hx hkv
  go_enter Tryz.func123, Tryz.ntmps123
  go_wp2_with (first
    | (go_at_call 47; refine (is_at HD.out _).mono ?_; rintro e w' ⟨rfl, rfl⟩)
    | (go_at_call 48; refine (no_any _ _ _).mono ?_; rintro e w' ⟨rfl, rfl⟩))
  go_returns
  refine ⟨rfl, ?_⟩
  go_grown
end

end Go.Proofs.YtabogkonklplcaaGreatDoor
